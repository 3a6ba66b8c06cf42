/-
  Contracts of package wide: differences and sums.
-/
import Derived.Test.YtnlnbikiocdpdaaDoorRefE
import Derived.Shelf.Spec.BitsCarry
namespace Go.Proofs.YtnlnbikiocdpdaaDoor
open Go.RowKit F Flow
set_option linter.unusedVariables false

theorem wrapped (n : Int) : n % 18446744073709551616 = lo n := rfl
def borrow (x y b : Int) : Int := if x < y + b then 1 else 0
def diff (x y b : Int) : Int := (x - y - b) % 18446744073709551616
def carried (x y c : Int) : Int := (x + y + c) / 18446744073709551616
def summed (x y c : Int) : Int := (x + y + c) % 18446744073709551616

theorem sub64_run (x y b : Int) (hx : 0 ≤ x) (hx' : x < 18446744073709551616) (hy : 0 ≤ y) (hy' : y < 18446744073709551616) (hb : 0 ≤ b) (hb' : b ≤ 1) (w : World) :
    (callFunc 68 #[.int .u64 x, .int .u64 y, .int .u64 b]).run Tryd.prog w = .ok (.value (.tuple #[.int .u64 (diff x y b), .int .u64 (borrow x y b)])) w := by
  obtain ⟨X, rfl⟩ := Int.eq_ofNat_of_zero_le hx
  obtain ⟨Y, rfl⟩ := Int.eq_ofNat_of_zero_le hy
  obtain ⟨B, rfl⟩ := Int.eq_ofNat_of_zero_le hb
  rw [run_callFunc_extern Tryd.func68 (by kernel_rfl) (by kernel_rfl) (by kernel_rfl) (e := sub64Entry) (by kernel_rfl), run_sub64 X Y B (by omega)]
  have e1 : (((X + 18446744073709551616 - Y - B) % 18446744073709551616 : Nat) : Int) = diff X Y B := by unfold diff; omega
  have e2 : ((if X < Y + B then 1 else 0 : Nat) : Int) = borrow X Y B := by unfold borrow; split <;> split <;> omega
  rw [e1, e2]
  rfl
theorem add64_run (x y c : Int) (hx : 0 ≤ x) (hx' : x < 18446744073709551616) (hy : 0 ≤ y) (hy' : y < 18446744073709551616) (hc : 0 ≤ c) (hc' : c ≤ 1) (w : World) :
    (callFunc 70 #[.int .u64 x, .int .u64 y, .int .u64 c]).run Tryd.prog w = .ok (.value (.tuple #[.int .u64 (summed x y c), .int .u64 (carried x y c)])) w := by
  rw [run_callFunc_extern Tryd.func70 (by kernel_rfl) (by kernel_rfl) (by kernel_rfl) (e := add64Entry) (by kernel_rfl), run_add64 x y c hx hy hc hc']
  rfl
theorem diff_bound (x y b : Int) : 0 ≤ diff x y b ∧ diff x y b < 18446744073709551616 := by unfold diff; omega
theorem borrow_bound (x y b : Int) : 0 ≤ borrow x y b ∧ borrow x y b ≤ 1 := by unfold borrow; split <;> omega
theorem summed_bound (x y c : Int) : 0 ≤ summed x y c ∧ summed x y c < 18446744073709551616 := by unfold summed; omega
theorem carried_bound {x y c : Int} (hx : 0 ≤ x) (hx' : x < 18446744073709551616) (hy : 0 ≤ y) (hy' : y < 18446744073709551616) (hc : 0 ≤ c) (hc' : c ≤ 1) : 0 ≤ carried x y c ∧ carried x y c ≤ 1 := by unfold carried; omega

set_option maxHeartbeats 1000000 in
theorem wless_raw (a0 a1 b0 b1 : Int) (hx : 0 ≤ a0) (hx' : a0 < 18446744073709551616) (hy : 0 ≤ a1) (hy' : a1 < 18446744073709551616) (h0 : 0 ≤ b0) (h0' : b0 < 18446744073709551616) (h1 : 0 ≤ b1) (h1' : b1 < 18446744073709551616) (w : World) :
    Calls Tryd.prog 59 #[.agg #[.int .u64 a0, .int .u64 a1], .agg #[.int .u64 b0, .int .u64 b1]] w fun e w' => e = .returned (.agg #[.int .u64 (diff a0 b0 0), .int .u64 (diff a1 b1 (borrow a0 b0 0))]) ∧ Below w.heap.size w w' := by
  have bb := borrow_bound a0 b0 0
  have r1 : ∀ w, _ := sub64_run a0 b0 0 hx hx' h0 h0' (by omega) (by omega)
  have r2 : ∀ w, _ := sub64_run a1 b1 (borrow a0 b0 0) hy hy' h1 h1' bb.1 bb.2
  go_enter Tryd.func59, Tryd.ntmps59
  go_wp2
  exact bodyPost_ret (v := .agg #[.int .u64 (diff a0 b0 0), .int .u64 (diff a1 b1 (borrow a0 b0 0))]) (by simp [results, Tryd.results59, go_sem]) rfl
    ⟨rfl, (((Below.refl _ _).alloc (Nat.le_refl _) _).alloc (by simp) _).alloc (by simp; omega) _⟩

theorem wless_eq {x y : Int} (h0 : 0 ≤ y) (h : y ≤ x) (hx : x < 340282366920938463463374607431768211456) :
    diff (lo x) (lo y) 0 = lo (x - y) ∧ diff (hi x) (hi y) (borrow (lo x) (lo y) 0) = hi (x - y) := by
  unfold diff borrow lo hi
  constructor
  · omega
  · split <;> omega
theorem wless_any (x y : Int) (h0 : 0 ≤ y) (h : y ≤ x) (hx : x < 340282366920938463463374607431768211456) (w : World) :
    Calls Tryd.prog 59 #[.agg #[.int .u64 (lo x), .int .u64 (hi x)], .agg #[.int .u64 (lo y), .int .u64 (hi y)]] w fun e w' => e = .returned (.agg #[.int .u64 (lo (x - y)), .int .u64 (hi (x - y))]) ∧ Below w.heap.size w w' := by
  have e := wless_eq h0 h hx
  rw [← e.1, ← e.2]
  exact wless_raw _ _ _ _ (lo_nonneg _) (lo_lt _) (hi_nonneg (by omega)) (hi_lt hx) (lo_nonneg _) (lo_lt _) (hi_nonneg h0) (hi_lt (by omega)) w

theorem M2 : M 2 = 340282366920938462946865773367900766209 := rfl
theorem win_raw (a0 a1 : Int) (w : World) :
    Calls Tryd.prog 61 #[.agg #[.int .u64 a0, .int .u64 a1]] w fun e w' => e = .returned (.bool (decide (a1 < 18446744073709551588) || (a1 == 18446744073709551588 && decide (a0 < 1)))) ∧ Below w.heap.size w w' := by
  by_cases h : a1 < 18446744073709551588
  · go_enter Tryd.func61, Tryd.ntmps61
    go_wp2
    go_ret
    exact ⟨by simp [h], (Below.refl _ _).alloc (Nat.le_refl _) _⟩
  · by_cases h2 : a1 = 18446744073709551588
    · subst h2
      go_enter Tryd.func61, Tryd.ntmps61
      go_wp2
      go_ret
      exact ⟨by simp, (Below.refl _ _).alloc (Nat.le_refl _) _⟩
    · have h3 : (a1 == 18446744073709551588) = false := by simpa using h2
      go_enter Tryd.func61, Tryd.ntmps61
      go_wp2
      go_ret
      exact ⟨by simp; omega, (Below.refl _ _).alloc (Nat.le_refl _) _⟩
theorem win_eq (x : Int) : (decide (hi x < 18446744073709551588) || (hi x == 18446744073709551588 && decide (lo x < 1))) = decide (x < M 2) := by
  rw [M2, Bool.eq_iff_iff]
  simp only [Bool.or_eq_true, Bool.and_eq_true, decide_eq_true_eq, beq_iff_eq]
  unfold lo hi
  omega
theorem win_any (x : Int) (w : World) :
    Calls Tryd.prog 61 #[.agg #[.int .u64 (lo x), .int .u64 (hi x)]] w fun e w' => e = .returned (.bool (decide (x < M 2))) ∧ Below w.heap.size w w' := by
  have h := win_raw (lo x) (hi x) w
  rwa [win_eq] at h

theorem wp_any (w : World) :
    Calls Tryd.prog 60 #[] w fun e w' => e = .returned (.agg #[.int .u64 (lo (M 2)), .int .u64 (hi (M 2))]) ∧ Below w.heap.size w w' := by
  rw [show lo (M 2) = 1 from rfl, show hi (M 2) = 18446744073709551588 from rfl]
  go_enter Tryd.func60, Tryd.ntmps60
  go_wp2
  exact bodyPost_ret (v := .agg #[.int .u64 1, .int .u64 18446744073709551588]) (by simp [results, Tryd.results60, go_sem]) rfl ⟨rfl, ((Below.refl _ _).alloc (Nat.le_refl _) _)⟩


set_option maxHeartbeats 1000000 in
theorem wof_small (x : Int) (h : x < M 2) (w : World) :
    Calls Tryd.prog 46 #[.agg #[.int .u64 (lo x), .int .u64 (hi x)]] w fun e w' => e = .returned (.agg #[.int .u64 (lo x), .int .u64 (hi x)]) ∧ Below w.heap.size w w' := by
  have hd : decide (x < M 2) = true := by simpa using h
  go_enter Tryd.func46, Tryd.ntmps46
  go_wp2_with fail
  refine name_calls (fun w1 => Below w.heap.size w w1 ∧ w1.heap[w.heap.size]? = some (.cells #[.int .u64 (lo x), .int .u64 (hi x)] 34 (0, 0)) ∧ w1.heap[w.heap.size + 1]? = some (.cells #[.int .u64 0, .int .u64 0] 34 (0, 0)))
    ⟨(((Below.refl _ _).alloc (Nat.le_refl _) _).alloc (by simp) _), alloc_keeps (alloc_at rfl), alloc_at (by simp)⟩ ?_
  rintro w1 ⟨b1, k0, k1⟩
  refine call_then (win_any x _) ?_
  intro w2 hw2
  replace b1 := below_next b1 b1.size hw2
  replace k0 := keeps hw2 k0
  replace k1 := keeps hw2 k1
  clear hw2
  obtain ⟨c0, d0, f0, g0⟩ := blk2 k0
  obtain ⟨c1, d1, f1, g1⟩ := blk2 k1
  go_wp2
  obtain ⟨c2, d2, _, _⟩ := blk2 (store2 (u := .int .u64 (lo (x))) (v := .int .u64 (hi (x))) k1)
  exact bodyPost_ret (v := .agg #[.int .u64 (lo (x)), .int .u64 (hi (x))]) (by simp [results, Tryd.results46, go_sem, c2, d2]) rfl ⟨rfl, below_store2 b1 (by omega)⟩
set_option maxHeartbeats 1000000 in
theorem wof_big (x : Int) (h : M 2 ≤ x) (hx : x < 340282366920938463463374607431768211456) (w : World) :
    Calls Tryd.prog 46 #[.agg #[.int .u64 (lo x), .int .u64 (hi x)]] w fun e w' => e = .returned (.agg #[.int .u64 (lo (x - M 2)), .int .u64 (hi (x - M 2))]) ∧ Below w.heap.size w w' := by
  have hd : decide (x < M 2) = false := by simp; omega
  have hM := M_pos 2
  go_enter Tryd.func46, Tryd.ntmps46
  go_wp2_with fail
  refine name_calls (fun w1 => Below w.heap.size w w1 ∧ w1.heap[w.heap.size]? = some (.cells #[.int .u64 (lo x), .int .u64 (hi x)] 34 (0, 0)) ∧ w1.heap[w.heap.size + 1]? = some (.cells #[.int .u64 0, .int .u64 0] 34 (0, 0)))
    ⟨(((Below.refl _ _).alloc (Nat.le_refl _) _).alloc (by simp) _), alloc_keeps (alloc_at rfl), alloc_at (by simp)⟩ ?_
  rintro w1 ⟨b1, k0, k1⟩
  refine call_then (win_any x _) ?_
  intro w2 hw2
  replace b1 := below_next b1 b1.size hw2
  replace k0 := keeps hw2 k0
  replace k1 := keeps hw2 k1
  clear hw2
  go_wp2
  refine wp_region_flow1 3 (by kernel_rfl) (by kernel_rfl) (by kernel_rfl) ?_
  apply Exists.intro
  refine ⟨fun ι _ φ hφ => ?_, fun wt hwt => ?_⟩
  · obtain ⟨e0, e1⟩ := hφ.two k0
    simp only [List.take_succ_cons, List.take_zero]
    repeat (go_big_quiet_step ((first
      | (go_at_call 60; exact flow_call hφ (wp_any _))
      | (go_at_call 59; exact flow_call hφ (wless_any x (M 2) (by omega) h hx _)))))
    exact wpQuiet_nil rfl
  replace b1 := below_next b1 b1.size hwt
  replace k1 := keeps hwt k1
  clear hwt k0
  obtain ⟨c1, d1, f1, g1⟩ := blk2 k1
  simp only [List.drop_succ_cons, List.drop_zero]
  go_wp2
  obtain ⟨c2, d2, _, _⟩ := blk2 (store2 (u := .int .u64 (lo (x - M 2))) (v := .int .u64 (hi (x - M 2))) k1)
  exact bodyPost_ret (v := .agg #[.int .u64 (lo (x - M 2)), .int .u64 (hi (x - M 2))]) (by simp [results, Tryd.results46, go_sem, c2, d2]) rfl ⟨rfl, below_store2 b1 (by omega)⟩
theorem wof_any (x : Int) (h0 : 0 ≤ x) (hx : x < 340282366920938463463374607431768211456) (w : World) :
    Calls Tryd.prog 46 #[.agg #[.int .u64 (lo x), .int .u64 (hi x)]] w fun e w' => e = .returned (.agg #[.int .u64 (lo (redu 2 x)), .int .u64 (hi (redu 2 x))]) ∧ Below w.heap.size w w' := by
  by_cases hc : M 2 ≤ x
  · rw [redu_big (by decide) hc hx]; exact wof_big x hc hx w
  · rw [redu_small (by decide) h0 (by omega)]; exact wof_small x (by omega) w

set_option maxHeartbeats 1000000 in
theorem wsub_less (X Y : Int) (hX : 0 ≤ X) (hX' : X < 340282366920938463463374607431768211456) (hY : 0 ≤ Y) (hY' : Y < 340282366920938463463374607431768211456) (hc : redu 2 X < redu 2 Y) (w : World) :
    Calls Tryd.prog 55 #[.agg #[.int .u64 (lo X), .int .u64 (hi X)], .agg #[.int .u64 (lo Y), .int .u64 (hi Y)]] w fun e w' => e = .returned (.agg #[.int .u64 (lo (M 2 - (redu 2 Y - redu 2 X))), .int .u64 (hi (M 2 - (redu 2 Y - redu 2 X)))]) ∧ Below w.heap.size w w' := by
  have hx0 := redu_nonneg 2 X
  have hx1 := redu_lt 2 X
  have hy0 := redu_nonneg 2 Y
  have hy1 := redu_lt 2 Y
  have hM' : M 2 < 340282366920938463463374607431768211456 := by rw [M2]; omega
  by_cases h1 : hi (redu 2 X) < hi (redu 2 Y)
  · go_enter Tryd.func55, Tryd.ntmps55
    go_wp2
    refine name_wp (fun w1 => Below w.heap.size w w1 ∧ w1.heap[w.heap.size]? = some (.cells #[.int .u64 (lo X), .int .u64 (hi X)] 34 (0, 0)) ∧ w1.heap[w.heap.size + 1]? = some (.cells #[.int .u64 (lo Y), .int .u64 (hi Y)] 34 (0, 0)) ∧
        w1.heap[w.heap.size + 1 + 1]? = some (.cells #[.int .u64 0, .int .u64 0] 34 (0, 0)))
      ⟨(((Below.refl _ _).alloc (Nat.le_refl _) _).alloc (by simp) _).alloc (by simp; omega) _, alloc_keeps (alloc_keeps (alloc_at rfl)), alloc_keeps (alloc_at (by simp)), alloc_at (by simp)⟩ ?_
    rintro w1 ⟨b1, k0, k1, k2⟩
    refine wp_region_flow1 4 (by kernel_rfl) (by kernel_rfl) (by kernel_rfl) ?_
    apply Exists.intro
    refine ⟨fun ι _ φ hφ => ?_, fun wt hwt => ?_⟩
    · obtain ⟨e0, e1⟩ := hφ.two k0
      obtain ⟨e2, e3⟩ := hφ.two k1
      simp only [List.take_succ_cons, List.take_zero]
      repeat (go_big_quiet_step ((first
        | (go_at_call 46; exact flow_call hφ (wof_any _ (by omega) (by omega) _)))))
      exact wpQuiet_nil rfl
    replace b1 := below_next b1 b1.size hwt
    replace k0 := keeps hwt k0
    replace k1 := keeps hwt k1
    replace k2 := keeps hwt k2
    clear hwt
    obtain ⟨c0, d0, f0, g0⟩ := blk2 k0
    obtain ⟨c1, d1, f1, g1⟩ := blk2 k1
    obtain ⟨c2, d2, f2, g2⟩ := blk2 k2
    have ne : w.heap.size + 1 ≠ w.heap.size := by omega
    have ne2 : w.heap.size ≠ w.heap.size + 1 := by omega
    simp only [List.drop_succ_cons, List.drop_zero]
    go_wp2
    refine name_wp (fun w1 => Below w.heap.size w w1 ∧ w1.heap[w.heap.size]? = some (.cells #[.int .u64 (lo (redu 2 X)), .int .u64 (hi (redu 2 X))] 34 (0, 0)) ∧ w1.heap[w.heap.size + 1]? = some (.cells #[.int .u64 (lo (redu 2 Y)), .int .u64 (hi (redu 2 Y))] 34 (0, 0)) ∧
        w1.heap[w.heap.size + 1 + 1]? = some (.cells #[.int .u64 0, .int .u64 0] 34 (0, 0)))
      ⟨below_store2 (below_store2 b1 (by omega)) (by omega), store2_far (store2 k0) ne2, store2 (store2_far k1 ne), store2_far (store2_far k2 (by omega)) (by omega)⟩
      ?_
    clear c0 d0 f0 g0 c1 d1 f1 g1 c2 d2 f2 g2 b1 k0 k1 k2
    rintro w3 ⟨b1, k0, k1, k2⟩
    refine wp_region_flow1 5 (by kernel_rfl) (by kernel_rfl) (by kernel_rfl) ?_
    apply Exists.intro
    refine ⟨fun ι _ φ hφ => ?_, fun wt hwt => ?_⟩
    · obtain ⟨e0, e1⟩ := hφ.two k0
      obtain ⟨e2, e3⟩ := hφ.two k1
      simp only [List.take_succ_cons, List.take_zero]
      repeat (go_big_quiet_step ((first
        | (go_at_call 60; exact flow_call hφ (wp_any _))
        | (go_at_call_of 59 (Value.agg #[.int .u64 (lo (redu 2 Y)), .int .u64 (hi (redu 2 Y))]); exact flow_call hφ (wless_any (redu 2 Y) (redu 2 X) (by omega) (by omega) (by omega) _))
        | (go_at_call 59; exact flow_call hφ (wless_any (M 2) (redu 2 Y - redu 2 X) (by omega) (by omega) (by omega) _)))))
      exact wpQuiet_nil rfl
    replace b1 := below_next b1 b1.size hwt
    replace k2 := keeps hwt k2
    clear hwt k0 k1
    obtain ⟨c2, d2, f2, g2⟩ := blk2 k2
    simp only [List.drop_succ_cons, List.drop_zero]
    go_wp2
    obtain ⟨c2, d2, _, _⟩ := blk2 (store2 (u := .int .u64 (lo (M 2 - (redu 2 Y - redu 2 X)))) (v := .int .u64 (hi (M 2 - (redu 2 Y - redu 2 X)))) k2)
    exact bodyPost_ret (v := .agg #[.int .u64 (lo (M 2 - (redu 2 Y - redu 2 X))), .int .u64 (hi (M 2 - (redu 2 Y - redu 2 X)))]) (by simp [results, Tryd.results55, go_sem, c2, d2]) rfl ⟨rfl, below_store2 b1 (by omega)⟩
  · have h2 : (hi (redu 2 X) == hi (redu 2 Y)) = true := by have := less_hi hc; simp; omega
    have h3 : lo (redu 2 X) < lo (redu 2 Y) := less_lo_of hc h1
    go_enter Tryd.func55, Tryd.ntmps55
    go_wp2
    refine name_wp (fun w1 => Below w.heap.size w w1 ∧ w1.heap[w.heap.size]? = some (.cells #[.int .u64 (lo X), .int .u64 (hi X)] 34 (0, 0)) ∧ w1.heap[w.heap.size + 1]? = some (.cells #[.int .u64 (lo Y), .int .u64 (hi Y)] 34 (0, 0)) ∧
        w1.heap[w.heap.size + 1 + 1]? = some (.cells #[.int .u64 0, .int .u64 0] 34 (0, 0)))
      ⟨(((Below.refl _ _).alloc (Nat.le_refl _) _).alloc (by simp) _).alloc (by simp; omega) _, alloc_keeps (alloc_keeps (alloc_at rfl)), alloc_keeps (alloc_at (by simp)), alloc_at (by simp)⟩ ?_
    rintro w1 ⟨b1, k0, k1, k2⟩
    refine wp_region_flow1 4 (by kernel_rfl) (by kernel_rfl) (by kernel_rfl) ?_
    apply Exists.intro
    refine ⟨fun ι _ φ hφ => ?_, fun wt hwt => ?_⟩
    · obtain ⟨e0, e1⟩ := hφ.two k0
      obtain ⟨e2, e3⟩ := hφ.two k1
      simp only [List.take_succ_cons, List.take_zero]
      repeat (go_big_quiet_step ((first
        | (go_at_call 46; exact flow_call hφ (wof_any _ (by omega) (by omega) _)))))
      exact wpQuiet_nil rfl
    replace b1 := below_next b1 b1.size hwt
    replace k0 := keeps hwt k0
    replace k1 := keeps hwt k1
    replace k2 := keeps hwt k2
    clear hwt
    obtain ⟨c0, d0, f0, g0⟩ := blk2 k0
    obtain ⟨c1, d1, f1, g1⟩ := blk2 k1
    obtain ⟨c2, d2, f2, g2⟩ := blk2 k2
    have ne : w.heap.size + 1 ≠ w.heap.size := by omega
    have ne2 : w.heap.size ≠ w.heap.size + 1 := by omega
    simp only [List.drop_succ_cons, List.drop_zero]
    go_wp2
    refine name_wp (fun w1 => Below w.heap.size w w1 ∧ w1.heap[w.heap.size]? = some (.cells #[.int .u64 (lo (redu 2 X)), .int .u64 (hi (redu 2 X))] 34 (0, 0)) ∧ w1.heap[w.heap.size + 1]? = some (.cells #[.int .u64 (lo (redu 2 Y)), .int .u64 (hi (redu 2 Y))] 34 (0, 0)) ∧
        w1.heap[w.heap.size + 1 + 1]? = some (.cells #[.int .u64 0, .int .u64 0] 34 (0, 0)))
      ⟨below_store2 (below_store2 b1 (by omega)) (by omega), store2_far (store2 k0) ne2, store2 (store2_far k1 ne), store2_far (store2_far k2 (by omega)) (by omega)⟩
      ?_
    clear c0 d0 f0 g0 c1 d1 f1 g1 c2 d2 f2 g2 b1 k0 k1 k2
    rintro w3 ⟨b1, k0, k1, k2⟩
    refine wp_region_flow1 5 (by kernel_rfl) (by kernel_rfl) (by kernel_rfl) ?_
    apply Exists.intro
    refine ⟨fun ι _ φ hφ => ?_, fun wt hwt => ?_⟩
    · obtain ⟨e0, e1⟩ := hφ.two k0
      obtain ⟨e2, e3⟩ := hφ.two k1
      simp only [List.take_succ_cons, List.take_zero]
      repeat (go_big_quiet_step ((first
        | (go_at_call 60; exact flow_call hφ (wp_any _))
        | (go_at_call_of 59 (Value.agg #[.int .u64 (lo (redu 2 Y)), .int .u64 (hi (redu 2 Y))]); exact flow_call hφ (wless_any (redu 2 Y) (redu 2 X) (by omega) (by omega) (by omega) _))
        | (go_at_call 59; exact flow_call hφ (wless_any (M 2) (redu 2 Y - redu 2 X) (by omega) (by omega) (by omega) _)))))
      exact wpQuiet_nil rfl
    replace b1 := below_next b1 b1.size hwt
    replace k2 := keeps hwt k2
    clear hwt k0 k1
    obtain ⟨c2, d2, f2, g2⟩ := blk2 k2
    simp only [List.drop_succ_cons, List.drop_zero]
    go_wp2
    obtain ⟨c2, d2, _, _⟩ := blk2 (store2 (u := .int .u64 (lo (M 2 - (redu 2 Y - redu 2 X)))) (v := .int .u64 (hi (M 2 - (redu 2 Y - redu 2 X)))) k2)
    exact bodyPost_ret (v := .agg #[.int .u64 (lo (M 2 - (redu 2 Y - redu 2 X))), .int .u64 (hi (M 2 - (redu 2 Y - redu 2 X)))]) (by simp [results, Tryd.results55, go_sem, c2, d2]) rfl ⟨rfl, below_store2 b1 (by omega)⟩
set_option maxHeartbeats 1000000 in
theorem wsub_more (X Y : Int) (hX : 0 ≤ X) (hX' : X < 340282366920938463463374607431768211456) (hY : 0 ≤ Y) (hY' : Y < 340282366920938463463374607431768211456) (hc : redu 2 Y ≤ redu 2 X) (w : World) :
    Calls Tryd.prog 55 #[.agg #[.int .u64 (lo X), .int .u64 (hi X)], .agg #[.int .u64 (lo Y), .int .u64 (hi Y)]] w fun e w' => e = .returned (.agg #[.int .u64 (lo (redu 2 X - redu 2 Y)), .int .u64 (hi (redu 2 X - redu 2 Y))]) ∧ Below w.heap.size w w' := by
  have hx0 := redu_nonneg 2 X
  have hx1 := redu_lt 2 X
  have hy0 := redu_nonneg 2 Y
  have hy1 := redu_lt 2 Y
  have hM' : M 2 < 340282366920938463463374607431768211456 := by rw [M2]; omega
  have h1 : ¬ hi (redu 2 X) < hi (redu 2 Y) := not_less_hi hc
  by_cases h2 : hi (redu 2 X) = hi (redu 2 Y)
  · have h3 : ¬ lo (redu 2 X) < lo (redu 2 Y) := not_less_lo hc h2
    have h4 : (hi (redu 2 X) == hi (redu 2 Y)) = true := by simpa using h2
    clear h2
    go_enter Tryd.func55, Tryd.ntmps55
    go_wp2
    refine name_wp (fun w1 => Below w.heap.size w w1 ∧ w1.heap[w.heap.size]? = some (.cells #[.int .u64 (lo X), .int .u64 (hi X)] 34 (0, 0)) ∧ w1.heap[w.heap.size + 1]? = some (.cells #[.int .u64 (lo Y), .int .u64 (hi Y)] 34 (0, 0)) ∧
        w1.heap[w.heap.size + 1 + 1]? = some (.cells #[.int .u64 0, .int .u64 0] 34 (0, 0)))
      ⟨(((Below.refl _ _).alloc (Nat.le_refl _) _).alloc (by simp) _).alloc (by simp; omega) _, alloc_keeps (alloc_keeps (alloc_at rfl)), alloc_keeps (alloc_at (by simp)), alloc_at (by simp)⟩ ?_
    rintro w1 ⟨b1, k0, k1, k2⟩
    refine wp_region_flow1 4 (by kernel_rfl) (by kernel_rfl) (by kernel_rfl) ?_
    apply Exists.intro
    refine ⟨fun ι _ φ hφ => ?_, fun wt hwt => ?_⟩
    · obtain ⟨e0, e1⟩ := hφ.two k0
      obtain ⟨e2, e3⟩ := hφ.two k1
      simp only [List.take_succ_cons, List.take_zero]
      repeat (go_big_quiet_step ((first
        | (go_at_call 46; exact flow_call hφ (wof_any _ (by omega) (by omega) _)))))
      exact wpQuiet_nil rfl
    replace b1 := below_next b1 b1.size hwt
    replace k0 := keeps hwt k0
    replace k1 := keeps hwt k1
    replace k2 := keeps hwt k2
    clear hwt
    obtain ⟨c0, d0, f0, g0⟩ := blk2 k0
    obtain ⟨c1, d1, f1, g1⟩ := blk2 k1
    obtain ⟨c2, d2, f2, g2⟩ := blk2 k2
    have ne : w.heap.size + 1 ≠ w.heap.size := by omega
    have ne2 : w.heap.size ≠ w.heap.size + 1 := by omega
    simp only [List.drop_succ_cons, List.drop_zero]
    go_wp2_with fail
    clear c0 d0 f0 g0 c1 d1 f1 g1 c2 d2 f2 g2
    refine name_calls (fun w1 => Below w.heap.size w w1 ∧ w1.heap[w.heap.size + 1 + 1]? = some (.cells #[.int .u64 0, .int .u64 0] 34 (0, 0)))
      ⟨below_store2 (below_store2 b1 (by omega)) (by omega), store2_far (store2_far k2 (by omega)) (by omega)⟩ ?_
    clear b1 k0 k1 k2
    rintro w3 ⟨b1, k2⟩
    refine call_then (wless_any (redu 2 X) (redu 2 Y) (by omega) (by omega) (by omega) _) ?_
    intro w4 hw4
    replace b1 := below_next b1 b1.size hw4
    replace k2 := keeps hw4 k2
    clear hw4
    obtain ⟨c2, d2, f2, g2⟩ := blk2 k2
    go_wp2
    obtain ⟨c2, d2, _, _⟩ := blk2 (store2 (u := .int .u64 (lo (redu 2 X - redu 2 Y))) (v := .int .u64 (hi (redu 2 X - redu 2 Y))) k2)
    exact bodyPost_ret (v := .agg #[.int .u64 (lo (redu 2 X - redu 2 Y)), .int .u64 (hi (redu 2 X - redu 2 Y))]) (by simp [results, Tryd.results55, go_sem, c2, d2]) rfl ⟨rfl, below_store2 b1 (by omega)⟩
  · have h4 : (hi (redu 2 X) == hi (redu 2 Y)) = false := by simpa using h2
    clear h2
    go_enter Tryd.func55, Tryd.ntmps55
    go_wp2
    refine name_wp (fun w1 => Below w.heap.size w w1 ∧ w1.heap[w.heap.size]? = some (.cells #[.int .u64 (lo X), .int .u64 (hi X)] 34 (0, 0)) ∧ w1.heap[w.heap.size + 1]? = some (.cells #[.int .u64 (lo Y), .int .u64 (hi Y)] 34 (0, 0)) ∧
        w1.heap[w.heap.size + 1 + 1]? = some (.cells #[.int .u64 0, .int .u64 0] 34 (0, 0)))
      ⟨(((Below.refl _ _).alloc (Nat.le_refl _) _).alloc (by simp) _).alloc (by simp; omega) _, alloc_keeps (alloc_keeps (alloc_at rfl)), alloc_keeps (alloc_at (by simp)), alloc_at (by simp)⟩ ?_
    rintro w1 ⟨b1, k0, k1, k2⟩
    refine wp_region_flow1 4 (by kernel_rfl) (by kernel_rfl) (by kernel_rfl) ?_
    apply Exists.intro
    refine ⟨fun ι _ φ hφ => ?_, fun wt hwt => ?_⟩
    · obtain ⟨e0, e1⟩ := hφ.two k0
      obtain ⟨e2, e3⟩ := hφ.two k1
      simp only [List.take_succ_cons, List.take_zero]
      repeat (go_big_quiet_step ((first
        | (go_at_call 46; exact flow_call hφ (wof_any _ (by omega) (by omega) _)))))
      exact wpQuiet_nil rfl
    replace b1 := below_next b1 b1.size hwt
    replace k0 := keeps hwt k0
    replace k1 := keeps hwt k1
    replace k2 := keeps hwt k2
    clear hwt
    obtain ⟨c0, d0, f0, g0⟩ := blk2 k0
    obtain ⟨c1, d1, f1, g1⟩ := blk2 k1
    obtain ⟨c2, d2, f2, g2⟩ := blk2 k2
    have ne : w.heap.size + 1 ≠ w.heap.size := by omega
    have ne2 : w.heap.size ≠ w.heap.size + 1 := by omega
    simp only [List.drop_succ_cons, List.drop_zero]
    go_wp2_with fail
    clear c0 d0 f0 g0 c1 d1 f1 g1 c2 d2 f2 g2
    refine name_calls (fun w1 => Below w.heap.size w w1 ∧ w1.heap[w.heap.size + 1 + 1]? = some (.cells #[.int .u64 0, .int .u64 0] 34 (0, 0)))
      ⟨below_store2 (below_store2 b1 (by omega)) (by omega), store2_far (store2_far k2 (by omega)) (by omega)⟩ ?_
    clear b1 k0 k1 k2
    rintro w3 ⟨b1, k2⟩
    refine call_then (wless_any (redu 2 X) (redu 2 Y) (by omega) (by omega) (by omega) _) ?_
    intro w4 hw4
    replace b1 := below_next b1 b1.size hw4
    replace k2 := keeps hw4 k2
    clear hw4
    obtain ⟨c2, d2, f2, g2⟩ := blk2 k2
    go_wp2
    obtain ⟨c2, d2, _, _⟩ := blk2 (store2 (u := .int .u64 (lo (redu 2 X - redu 2 Y))) (v := .int .u64 (hi (redu 2 X - redu 2 Y))) k2)
    exact bodyPost_ret (v := .agg #[.int .u64 (lo (redu 2 X - redu 2 Y)), .int .u64 (hi (redu 2 X - redu 2 Y))]) (by simp [results, Tryd.results55, go_sem, c2, d2]) rfl ⟨rfl, below_store2 b1 (by omega)⟩
theorem wsub_any (X Y : Int) (hX : 0 ≤ X) (hX' : X < 340282366920938463463374607431768211456) (hY : 0 ≤ Y) (hY' : Y < 340282366920938463463374607431768211456) (w : World) :
    Calls Tryd.prog 55 #[.agg #[.int .u64 (lo X), .int .u64 (hi X)], .agg #[.int .u64 (lo Y), .int .u64 (hi Y)]] w fun e w' => e = .returned (.agg #[.int .u64 (lo (sub 2 X Y)), .int .u64 (hi (sub 2 X Y))]) ∧ Below w.heap.size w w' := by
  by_cases hc : redu 2 X < redu 2 Y
  · rw [sub_less hc]; exact wsub_less X Y hX hX' hY hY' hc w
  · rw [sub_more (by omega)]; exact wsub_more X Y hX hX' hY hY' (by omega) w

set_option maxHeartbeats 1000000 in
theorem wneg_any (X : Int) (hX : 0 ≤ X) (hX' : X < 340282366920938463463374607431768211456) (w : World) :
    Calls Tryd.prog 67 #[.agg #[.int .u64 (lo X), .int .u64 (hi X)]] w fun e w' => e = .returned (.agg #[.int .u64 (lo (neg 2 X)), .int .u64 (hi (neg 2 X))]) ∧ Below w.heap.size w w' := by
  rw [← sub_zero_neg]
  go_enter Tryd.func67, Tryd.ntmps67
  go_wp2_with fail
  refine name_calls (fun w1 => Below w.heap.size w w1 ∧ w1.heap[w.heap.size]? = some (.cells #[.int .u64 (lo X), .int .u64 (hi X)] 34 (0, 0)) ∧ w1.heap[w.heap.size + 1]? = some (.cells #[.int .u64 0, .int .u64 0] 34 (0, 0)))
    ⟨(((Below.refl _ _).alloc (Nat.le_refl _) _).alloc (by simp) _), alloc_keeps (alloc_at rfl), alloc_at (by simp)⟩ ?_
  rintro w1 ⟨b1, k0, k1⟩
  refine call_then (wsub_any 0 X (by omega) (by omega) hX hX' _) ?_
  intro w2 hw2
  replace b1 := below_next b1 b1.size hw2
  replace k1 := keeps hw2 k1
  clear hw2 k0
  obtain ⟨c1, d1, f1, g1⟩ := blk2 k1
  go_wp2
  obtain ⟨c2, d2, _, _⟩ := blk2 (store2 (u := .int .u64 (lo (sub 2 0 X))) (v := .int .u64 (hi (sub 2 0 X))) k1)
  exact bodyPost_ret (v := .agg #[.int .u64 (lo (sub 2 0 X)), .int .u64 (hi (sub 2 0 X))]) (by simp [results, Tryd.results67, go_sem, c2, d2]) rfl ⟨rfl, below_store2 b1 (by omega)⟩

set_option maxHeartbeats 1000000 in
theorem wadd_any (X Y : Int) (hX : 0 ≤ X) (hX' : X < 340282366920938463463374607431768211456) (hY : 0 ≤ Y) (hY' : Y < 340282366920938463463374607431768211456) (w : World) :
    Calls Tryd.prog 50 #[.agg #[.int .u64 (lo X), .int .u64 (hi X)], .agg #[.int .u64 (lo Y), .int .u64 (hi Y)]] w fun e w' => e = .returned (.agg #[.int .u64 (lo (add 2 X Y)), .int .u64 (hi (add 2 X Y))]) ∧ Below w.heap.size w w' := by
  have hn := neg_bound 2 Y
  have hM' : M 2 < 340282366920938463463374607431768211456 := by rw [M2]; omega
  rw [← sub_neg_add]
  go_enter Tryd.func50, Tryd.ntmps50
  go_wp2
  refine name_wp (fun w1 => Below w.heap.size w w1 ∧ w1.heap[w.heap.size]? = some (.cells #[.int .u64 (lo X), .int .u64 (hi X)] 34 (0, 0)) ∧ w1.heap[w.heap.size + 1]? = some (.cells #[.int .u64 (lo Y), .int .u64 (hi Y)] 34 (0, 0)) ∧
      w1.heap[w.heap.size + 1 + 1]? = some (.cells #[.int .u64 0, .int .u64 0] 34 (0, 0)))
    ⟨(((Below.refl _ _).alloc (Nat.le_refl _) _).alloc (by simp) _).alloc (by simp; omega) _, alloc_keeps (alloc_keeps (alloc_at rfl)), alloc_keeps (alloc_at (by simp)), alloc_at (by simp)⟩ ?_
  rintro w1 ⟨b1, k0, k1, k2⟩
  refine wp_region_flow1 4 (by kernel_rfl) (by kernel_rfl) (by kernel_rfl) ?_
  apply Exists.intro
  refine ⟨fun ι _ φ hφ => ?_, fun wt hwt => ?_⟩
  · obtain ⟨e0, e1⟩ := hφ.two k0
    obtain ⟨e2, e3⟩ := hφ.two k1
    simp only [List.take_succ_cons, List.take_zero]
    repeat (go_big_quiet_step ((first
      | (go_at_call 67; exact flow_call hφ (wneg_any Y hY hY' _))
      | (go_at_call 55; exact flow_call hφ (wsub_any X (neg 2 Y) hX hX' hn.1 (by omega) _)))))
    exact wpQuiet_nil rfl
  replace b1 := below_next b1 b1.size hwt
  replace k2 := keeps hwt k2
  clear hwt k0 k1
  obtain ⟨c2, d2, f2, g2⟩ := blk2 k2
  simp only [List.drop_succ_cons, List.drop_zero]
  go_wp2
  obtain ⟨c2, d2, _, _⟩ := blk2 (store2 (u := .int .u64 (lo (sub 2 X (neg 2 Y)))) (v := .int .u64 (hi (sub 2 X (neg 2 Y)))) k2)
  exact bodyPost_ret (v := .agg #[.int .u64 (lo (sub 2 X (neg 2 Y))), .int .u64 (hi (sub 2 X (neg 2 Y)))]) (by simp [results, Tryd.results50, go_sem, c2, d2]) rfl ⟨rfl, below_store2 b1 (by omega)⟩
end Go.Proofs.YtnlnbikiocdpdaaDoor
