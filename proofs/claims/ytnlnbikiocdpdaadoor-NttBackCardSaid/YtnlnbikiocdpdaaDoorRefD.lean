/-
  Contracts of the reference's elements: what is 0 less one; differences; bits.
-/
import Derived.Test.YtnlnbikiocdpdaaDoorRefC
namespace Go.Proofs.YtnlnbikiocdpdaaDoor
open Go.RowKit F Flow

theorem run_eql_pair {P : Program} {t e : TypeId} (ht : P.underlying t = some (.array 2 e)) (he : P.underlying e = some (.int .u64)) (hs : ∀ w, (sizeOf e).run P w = .ok 1 w) (a b c d : Int) (w : World) :
    (Op.equalIn 10000 t (.agg #[.int .u64 a, .int .u64 b]) (.agg #[.int .u64 c, .int .u64 d])).run P w = .ok ((a == c) && (b == d)) w := by
  rw [show (10000 : Nat) = 9998 + 2 from rfl, Op.equalIn]
  simp only [Sem.run_bind, run_underlying ht, Result.andThen_ok, hs, Std.Legacy.Range.forIn_eq_forIn_range', Std.Legacy.Range.size, Nat.sub_zero, Nat.add_sub_cancel, Nat.div_one]
  have e1 := run_equalIn_int w 9998 e .u64 .u64 a c he
  have e2 := run_equalIn_int w 9998 e .u64 .u64 b d he
  have p : ∀ (x y : Int), (part e #[.int .u64 x, .int .u64 y] 0).run P w = .ok (.int .u64 x) w := fun x y => by simp [part, isAgg, run_underlying he]
  have q : ∀ (x y : Int), (part e #[.int .u64 x, .int .u64 y] 1).run P w = .ok (.int .u64 y) w := fun x y => by simp [part, isAgg, run_underlying he]
  have h0 : (a == c) = true ∨ (a == c) = false := by cases a == c <;> simp
  have h1 : (b == d) = true ∨ (b == d) = false := by cases b == d <;> simp
  rcases h0 with h0 | h0 <;> rcases h1 with h1 | h1 <;> simp [List.range', p, q, e1, e2, h0, h1]

theorem eql_elem (a b c d : Int) (w : World) : (Op.equalIn 10000 34 (.agg #[.int .u64 a, .int .u64 b]) (.agg #[.int .u64 c, .int .u64 d])).run Tryd.prog w = .ok ((a == c) && (b == d)) w :=
  run_eql_pair Tryd.underlying34 Tryd.underlying32 Tryd.sizeOf32 a b c d w
attribute [local go_sem] eql_elem

set_option maxHeartbeats 1000000 in
theorem bit_case0 (x : Int) (r : Nat) (hr : r < 64) (w : World) :
    Calls Tryd.prog 42 #[.agg #[.int .u64 (lo x), .int .u64 (hi x)], .int .i64 r] w fun e w' => e = .returned (.bool (bitOf x r)) ∧ Below w.heap.size w w' := by
  have hw0 := lo_nonneg x
  have hw1 := lo_lt x
  have q1 : (r : Int) / 64 = 0 := by omega
  have q2 : (r : Int) % 64 = r := by omega
  go_enter Tryd.func42, Tryd.ntmps42
  go_wp2
  go_loop [5, 6] (fun n k => ∃ j : Nat, j ≤ r ∧ k = .int .i64 j ∧ n = .int .u64 (lo x / 2 ^ j)) (fun _ k => r - (intOf k).toNat)
  case atStart => exact ⟨0, Nat.zero_le _, rfl, by simp⟩
  case round =>
    obtain ⟨j, hj, rfl, rfl⟩ := hrel
    have hb := half_bound hw0 j
    have hs := Lib.hid (half_step (lo x) j)
    by_cases hlt : j < r
    · go_wp2
      go_round
      case rel => exact ⟨j + 1, by omega, by go_num, by rw [hs.out]⟩
      case measure => simp [intOf]; omega
    · obtain rfl : j = r := by omega
      go_wp2
      go_ret
      exact ⟨congrArg (fun b => Ending.returned (.bool b)) (bitOf_lo x j hr), (Below.refl _ _).alloc (Nat.le_refl _) _⟩

set_option maxHeartbeats 1000000 in
theorem bit_case1 (x : Int) (r : Nat) (h0 : 0 ≤ x) (h1 : x < 340282366920938463463374607431768211456) (hr : r < 64) (w : World) :
    Calls Tryd.prog 42 #[.agg #[.int .u64 (lo x), .int .u64 (hi x)], .int .i64 (64 + r)] w fun e w' => e = .returned (.bool (bitOf x (64 + r))) ∧ Below w.heap.size w w' := by
  have hw0 := hi_nonneg h0
  have hw1 := hi_lt h1
  have q1 : (64 + (r : Int)) / 64 = 1 := by omega
  have q2 : (64 + (r : Int)) % 64 = r := by omega
  clear h0 h1
  go_enter Tryd.func42, Tryd.ntmps42
  go_wp2
  go_loop [5, 6] (fun n k => ∃ j : Nat, j ≤ r ∧ k = .int .i64 j ∧ n = .int .u64 (hi x / 2 ^ j)) (fun _ k => r - (intOf k).toNat)
  case atStart => exact ⟨0, Nat.zero_le _, rfl, by simp⟩
  case round =>
    obtain ⟨j, hj, rfl, rfl⟩ := hrel
    have hb := half_bound hw0 j
    have hs := Lib.hid (half_step (hi x) j)
    by_cases hlt : j < r
    · go_wp2
      go_round
      case rel => exact ⟨j + 1, by omega, by go_num, by rw [hs.out]⟩
      case measure => simp [intOf]; omega
    · obtain rfl : j = r := by omega
      go_wp2
      go_ret
      exact ⟨congrArg (fun b => Ending.returned (.bool b)) (bitOf_hi x j), (Below.refl _ _).alloc (Nat.le_refl _) _⟩

/-- bit: whether a bit of an element is set. -/
theorem bit_any (x i : Int) (h0 : 0 ≤ x) (h1 : x < 340282366920938463463374607431768211456) (hi0 : 0 ≤ i) (hi1 : i < 128) (w : World) :
    Calls Tryd.prog 42 #[.agg #[.int .u64 (lo x), .int .u64 (hi x)], .int .i64 i] w fun e w' => e = .returned (.bool (bitOf x i.toNat)) ∧ Below w.heap.size w w' := by
  obtain ⟨n, rfl⟩ := Int.eq_ofNat_of_zero_le hi0
  rw [Int.toNat_natCast]
  by_cases h : n < 64
  · exact bit_case0 x n h w
  · obtain ⟨r, rfl⟩ : ∃ r, n = 64 + r := ⟨n - 64, by omega⟩
    exact bit_case1 x r h0 h1 (by omega) w

theorem bit_nat (x : Int) (k : Nat) (h0 : 0 ≤ x) (h1 : x < 340282366920938463463374607431768211456) (hk : k < 128) (w : World) :
    Calls Tryd.prog 42 #[.agg #[.int .u64 (lo x), .int .u64 (hi x)], .int .i64 k] w fun e w' => e = .returned (.bool (bitOf x k)) ∧ Below w.heap.size w w' := by
  have h := bit_any x k h0 h1 (by omega) (by omega) w
  rwa [Int.toNat_natCast] at h
end Go.Proofs.YtnlnbikiocdpdaaDoor
