/-
  Contracts of the reference's elements: what is 0 less one; differences; bits.
-/
import Derived.Test.YtokdbedineoklaaRefC
namespace Go.Proofs.Ytokdbedineoklaa
open Go.RowKit F Flow

theorem run_eql_pair {P : Program} {t e : TypeId} (ht : P.underlying t = some (.array 2 e)) (he : P.underlying e = some (.int .u64)) (hs : ∀ w, (sizeOf e).run P w = .ok 1 w) (a b c d : Int) (w : World) :
    (Op.equalIn 10000 t (.agg #[.int .u64 a, .int .u64 b]) (.agg #[.int .u64 c, .int .u64 d])).run P w = .ok ((a == c) && (b == d)) w := by
  rw [show (10000 : Nat) = 9998 + 2 from rfl, Op.equalIn]
  simp only [Sem.run_bind, run_underlying ht, Result.andThen_ok, hs, Std.Legacy.Range.forIn_eq_forIn_range', Std.Legacy.Range.size, Nat.sub_zero, Nat.add_sub_cancel, Nat.div_one]
  have e1 := run_equalIn_int w 9998 e .u64 .u64 a c he
  have e2 := run_equalIn_int w 9998 e .u64 .u64 b d he
  have p : ∀ (x y : Int), (part e #[.int .u64 x, .int .u64 y] 0).run P w = .ok (.int .u64 x) w := fun x y => by simp [part, isAgg, run_underlying he]
  have q : ∀ (x y : Int), (part e #[.int .u64 x, .int .u64 y] 1).run P w = .ok (.int .u64 y) w := fun x y => by simp [part, isAgg, run_underlying he]
  have h0 : (a == c) = true ∨ (a == c) = false := by cases a == c <;> simp
  have h1 : (b == d) = true ∨ (b == d) = false := by cases b == d <;> simp
  rcases h0 with h0 | h0 <;> rcases h1 with h1 | h1 <;> simp [List.range', p, q, e1, e2, h0, h1]

theorem eql_elem (a b c d : Int) (w : World) : (Op.equalIn 10000 24 (.agg #[.int .u64 a, .int .u64 b]) (.agg #[.int .u64 c, .int .u64 d])).run Try.prog w = .ok ((a == c) && (b == d)) w :=
  run_eql_pair Try.underlying24 Try.underlying22 Try.sizeOf22 a b c d w
attribute [local go_sem] eql_elem

set_option maxHeartbeats 1000000 in
theorem neg_case0 (f X : Int) (hX : 0 ≤ X) (hX' : X < 340282366920938463463374607431768211456) (hz : redu f X = 0) (w : World) :
    Calls Try.prog 19 #[.int .i64 f, .agg #[.int .u64 (lo X), .int .u64 (hi X)]] w fun e w' => e = .returned (.agg #[.int .u64 (lo (redu f X)), .int .u64 (hi (redu f X))]) ∧ Below w.heap.size w w' := by
  have hd : (lo (redu f X) == 0 && hi (redu f X) == 0) = true := by rw [zero_iff (redu_nonneg f X)]; simpa using hz
  replace hz := Lib.hid hz
  go_enter Try.func19, Try.ntmps19
  go_wp2_with fail
  refine name_calls (fun w1 => Below w.heap.size w w1 ∧ w1.heap[w.heap.size]? = some (.cells #[.int .u64 (lo X), .int .u64 (hi X)] 24 (0, 0)) ∧ w1.heap[w.heap.size + 1]? = some (.cells #[.int .u64 0, .int .u64 0] 24 (0, 0)))
    ⟨(((Below.refl _ _).alloc (Nat.le_refl _) _).alloc (by simp) _), alloc_keeps (alloc_at rfl), alloc_at (by simp)⟩ ?_
  rintro w1 ⟨b1, k0, k1⟩
  refine call_then (of_any f X hX hX' _) ?_
  intro w2 hw2
  replace b1 := below_next b1 b1.size hw2
  replace k0 := keeps hw2 k0
  replace k1 := keeps hw2 k1
  clear hw2
  obtain ⟨c0, d0, f0, g0⟩ := blk2 k0
  obtain ⟨c1, d1, f1, g1⟩ := blk2 k1
  have ne2 : w.heap.size ≠ w.heap.size + 1 := by omega
  go_wp2_with fail
  obtain ⟨c2, d2, _, _⟩ := blk2 (store2 (u := .int .u64 (lo (redu f X))) (v := .int .u64 (hi (redu f X))) (store2_far (u := .int .u64 (lo (redu f X))) (v := .int .u64 (hi (redu f X))) k1 (by omega : w.heap.size + 1 ≠ w.heap.size)))
  exact bodyPost_ret (v := .agg #[.int .u64 (lo (redu f X)), .int .u64 (hi (redu f X))]) (by simp [results, Try.results19, go_sem, c2, d2]) rfl ⟨rfl, below_store2 (below_store2 b1 (by omega)) (by omega)⟩

set_option maxHeartbeats 1000000 in
theorem neg_case1 (f X : Int) (hX : 0 ≤ X) (hX' : X < 340282366920938463463374607431768211456) (hz : redu f X ≠ 0) (w : World) :
    Calls Try.prog 19 #[.int .i64 f, .agg #[.int .u64 (lo X), .int .u64 (hi X)]] w fun e w' => e = .returned (.agg #[.int .u64 (lo (M f - redu f X)), .int .u64 (hi (M f - redu f X))]) ∧ Below w.heap.size w w' := by
  have hd : (lo (redu f X) == 0 && hi (redu f X) == 0) = false := by rw [zero_iff (redu_nonneg f X)]; simpa using hz
  have hx0 := redu_nonneg f X
  have hx1 := redu_lt f X
  have hM' : M f < 340282366920938463463374607431768211456 := by have := M_lt f; omega
  go_enter Try.func19, Try.ntmps19
  go_wp2_with fail
  refine name_calls (fun w1 => Below w.heap.size w w1 ∧ w1.heap[w.heap.size]? = some (.cells #[.int .u64 (lo X), .int .u64 (hi X)] 24 (0, 0)) ∧ w1.heap[w.heap.size + 1]? = some (.cells #[.int .u64 0, .int .u64 0] 24 (0, 0)))
    ⟨(((Below.refl _ _).alloc (Nat.le_refl _) _).alloc (by simp) _), alloc_keeps (alloc_at rfl), alloc_at (by simp)⟩ ?_
  rintro w1 ⟨b1, k0, k1⟩
  refine call_then (of_any f X hX hX' _) ?_
  intro w2 hw2
  replace b1 := below_next b1 b1.size hw2
  replace k0 := keeps hw2 k0
  replace k1 := keeps hw2 k1
  clear hw2
  obtain ⟨c0, d0, f0, g0⟩ := blk2 k0
  obtain ⟨c1, d1, f1, g1⟩ := blk2 k1
  have ne2 : w.heap.size ≠ w.heap.size + 1 := by omega
  go_wp2_with fail
  clear c0 d0 f0 g0 c1 d1 f1 g1
  refine name_wp (fun w1 => Below w.heap.size w w1 ∧ w1.heap[w.heap.size]? = some (.cells #[.int .u64 (lo (redu f X)), .int .u64 (hi (redu f X))] 24 (0, 0)) ∧ w1.heap[w.heap.size + 1]? = some (.cells #[.int .u64 0, .int .u64 0] 24 (0, 0)))
    ⟨below_store2 b1 (by omega), store2 k0, store2_far k1 (by omega)⟩ ?_
  clear b1 k0 k1
  rintro w3 ⟨b1, k0, k1⟩
  refine wp_region_flow1 4 (by kernel_rfl) (by kernel_rfl) (by kernel_rfl) ?_
  apply Exists.intro
  refine ⟨fun ι _ φ hφ => ?_, fun w4 hw4 => ?_⟩
  · obtain ⟨e2, e3⟩ := hφ.two k0
    simp only [List.take_succ_cons, List.take_zero]
    repeat (go_big_quiet_step ((first
      | (go_at_call 48; exact flow_call hφ (p_any f _))
      | (go_at_call 49; exact flow_call hφ (take_any (M f) (redu f X) hx0 (by omega) hM' _)))))
    exact wpQuiet_nil rfl
  replace b1 := below_next b1 b1.size hw4
  replace k1 := keeps hw4 k1
  clear hw4 k0
  obtain ⟨c1, d1, f1, g1⟩ := blk2 k1
  simp only [List.drop_succ_cons, List.drop_zero]
  go_wp2
  obtain ⟨c2, d2, _, _⟩ := blk2 (store2 (u := .int .u64 (lo (M f - redu f X))) (v := .int .u64 (hi (M f - redu f X))) k1)
  exact bodyPost_ret (v := .agg #[.int .u64 (lo (M f - redu f X)), .int .u64 (hi (M f - redu f X))]) (by simp [results, Try.results19, go_sem, c2, d2]) rfl ⟨rfl, below_store2 b1 (by omega)⟩

/-- Neg: 0 less a number, as an element. -/
theorem neg_any (f X : Int) (hX : 0 ≤ X) (hX' : X < 340282366920938463463374607431768211456) (w : World) :
    Calls Try.prog 19 #[.int .i64 f, .agg #[.int .u64 (lo X), .int .u64 (hi X)]] w fun e w' => e = .returned (.agg #[.int .u64 (lo (neg f X)), .int .u64 (hi (neg f X))]) ∧ Below w.heap.size w w' := by
  by_cases hz : redu f X = 0
  · rw [neg_zero hz]; exact neg_case0 f X hX hX' hz w
  · rw [neg_pos hz]; exact neg_case1 f X hX hX' hz w

set_option maxHeartbeats 1000000 in
/-- Sub: a difference. -/
theorem sub_any (f X Y : Int) (hX : 0 ≤ X) (hX' : X < 340282366920938463463374607431768211456) (hY : 0 ≤ Y) (hY' : Y < 340282366920938463463374607431768211456) (w : World) :
    Calls Try.prog 17 #[.int .i64 f, .agg #[.int .u64 (lo X), .int .u64 (hi X)], .agg #[.int .u64 (lo Y), .int .u64 (hi Y)]] w fun e w' => e = .returned (.agg #[.int .u64 (lo (sub f X Y)), .int .u64 (hi (sub f X Y))]) ∧ Below w.heap.size w w' := by
  have hn := neg_bound f Y
  have hM' : M f < 340282366920938463463374607431768211456 := by have := M_lt f; omega
  rw [← sub_eq]
  go_enter Try.func17, Try.ntmps17
  go_wp2
  refine name_wp (fun w1 => Below w.heap.size w w1 ∧ w1.heap[w.heap.size]? = some (.cells #[.int .u64 (lo X), .int .u64 (hi X)] 24 (0, 0)) ∧ w1.heap[w.heap.size + 1]? = some (.cells #[.int .u64 (lo Y), .int .u64 (hi Y)] 24 (0, 0)) ∧
      w1.heap[w.heap.size + 1 + 1]? = some (.cells #[.int .u64 0, .int .u64 0] 24 (0, 0)))
    ⟨(((Below.refl _ _).alloc (Nat.le_refl _) _).alloc (by simp) _).alloc (by simp; omega) _, alloc_keeps (alloc_keeps (alloc_at rfl)), alloc_keeps (alloc_at (by simp)), alloc_at (by simp)⟩ ?_
  rintro w1 ⟨b1, k0, k1, k2⟩
  refine wp_region_flow1 6 (by kernel_rfl) (by kernel_rfl) (by kernel_rfl) ?_
  apply Exists.intro
  refine ⟨fun ι _ φ hφ => ?_, fun w2 hw2 => ?_⟩
  · obtain ⟨e0, e1⟩ := hφ.two k0
    obtain ⟨e2, e3⟩ := hφ.two k1
    simp only [List.take_succ_cons, List.take_zero]
    repeat (go_big_quiet_step ((first
      | (go_at_call 19; exact flow_call hφ (neg_any f Y hY hY' _))
      | (go_at_call 15; exact flow_call hφ (add_any f X (neg f Y) hX hX' hn.1 (by omega) _)))))
    exact wpQuiet_nil rfl
  replace b1 := below_next b1 b1.size hw2
  replace k2 := keeps hw2 k2
  clear hw2 k0 k1
  obtain ⟨c1, d1, f1, g1⟩ := blk2 k2
  simp only [List.drop_succ_cons, List.drop_zero]
  go_wp2
  obtain ⟨c2, d2, _, _⟩ := blk2 (store2 (u := .int .u64 (lo (add f X (neg f Y)))) (v := .int .u64 (hi (add f X (neg f Y)))) k2)
  exact bodyPost_ret (v := .agg #[.int .u64 (lo (add f X (neg f Y))), .int .u64 (hi (add f X (neg f Y)))]) (by simp [results, Try.results17, go_sem, c2, d2]) rfl ⟨rfl, below_store2 b1 (by omega)⟩

set_option maxHeartbeats 1000000 in
theorem bit_case0 (x : Int) (r : Nat) (hr : r < 64) (w : World) :
    Calls Try.prog 52 #[.agg #[.int .u64 (lo x), .int .u64 (hi x)], .int .i64 r] w fun e w' => e = .returned (.bool (bitOf x r)) ∧ Below w.heap.size w w' := by
  have hw0 := lo_nonneg x
  have hw1 := lo_lt x
  have q1 : (r : Int) / 64 = 0 := by omega
  have q2 : (r : Int) % 64 = r := by omega
  go_enter Try.func52, Try.ntmps52
  go_wp2
  go_loop [5, 6] (fun n k => ∃ j : Nat, j ≤ r ∧ k = .int .i64 j ∧ n = .int .u64 (lo x / 2 ^ j)) (fun _ k => r - (intOf k).toNat)
  case atStart => exact ⟨0, Nat.zero_le _, rfl, by simp⟩
  case round =>
    obtain ⟨j, hj, rfl, rfl⟩ := hrel
    have hb := half_bound hw0 j
    have hs := Lib.hid (half_step (lo x) j)
    by_cases hlt : j < r
    · go_wp2
      go_round
      case rel => exact ⟨j + 1, by omega, by go_num, by rw [hs.out]⟩
      case measure => simp [intOf]; omega
    · obtain rfl : j = r := by omega
      go_wp2
      go_ret
      exact ⟨congrArg (fun b => Ending.returned (.bool b)) (bitOf_lo x j hr), (Below.refl _ _).alloc (Nat.le_refl _) _⟩

set_option maxHeartbeats 1000000 in
theorem bit_case1 (x : Int) (r : Nat) (h0 : 0 ≤ x) (h1 : x < 340282366920938463463374607431768211456) (hr : r < 64) (w : World) :
    Calls Try.prog 52 #[.agg #[.int .u64 (lo x), .int .u64 (hi x)], .int .i64 (64 + r)] w fun e w' => e = .returned (.bool (bitOf x (64 + r))) ∧ Below w.heap.size w w' := by
  have hw0 := hi_nonneg h0
  have hw1 := hi_lt h1
  have q1 : (64 + (r : Int)) / 64 = 1 := by omega
  have q2 : (64 + (r : Int)) % 64 = r := by omega
  clear h0 h1
  go_enter Try.func52, Try.ntmps52
  go_wp2
  go_loop [5, 6] (fun n k => ∃ j : Nat, j ≤ r ∧ k = .int .i64 j ∧ n = .int .u64 (hi x / 2 ^ j)) (fun _ k => r - (intOf k).toNat)
  case atStart => exact ⟨0, Nat.zero_le _, rfl, by simp⟩
  case round =>
    obtain ⟨j, hj, rfl, rfl⟩ := hrel
    have hb := half_bound hw0 j
    have hs := Lib.hid (half_step (hi x) j)
    by_cases hlt : j < r
    · go_wp2
      go_round
      case rel => exact ⟨j + 1, by omega, by go_num, by rw [hs.out]⟩
      case measure => simp [intOf]; omega
    · obtain rfl : j = r := by omega
      go_wp2
      go_ret
      exact ⟨congrArg (fun b => Ending.returned (.bool b)) (bitOf_hi x j), (Below.refl _ _).alloc (Nat.le_refl _) _⟩

/-- bit: whether a bit of an element is set. -/
theorem bit_any (x i : Int) (h0 : 0 ≤ x) (h1 : x < 340282366920938463463374607431768211456) (hi0 : 0 ≤ i) (hi1 : i < 128) (w : World) :
    Calls Try.prog 52 #[.agg #[.int .u64 (lo x), .int .u64 (hi x)], .int .i64 i] w fun e w' => e = .returned (.bool (bitOf x i.toNat)) ∧ Below w.heap.size w w' := by
  obtain ⟨n, rfl⟩ := Int.eq_ofNat_of_zero_le hi0
  rw [Int.toNat_natCast]
  by_cases h : n < 64
  · exact bit_case0 x n h w
  · obtain ⟨r, rfl⟩ : ∃ r, n = 64 + r := ⟨n - 64, by omega⟩
    exact bit_case1 x r h0 h1 (by omega) w

theorem bit_nat (x : Int) (k : Nat) (h0 : 0 ≤ x) (h1 : x < 340282366920938463463374607431768211456) (hk : k < 128) (w : World) :
    Calls Try.prog 52 #[.agg #[.int .u64 (lo x), .int .u64 (hi x)], .int .i64 k] w fun e w' => e = .returned (.bool (bitOf x k)) ∧ Below w.heap.size w w' := by
  have h := bit_any x k h0 h1 (by omega) (by omega) w
  rwa [Int.toNat_natCast] at h
end Go.Proofs.Ytokdbedineoklaa
