/-
  Contracts of the reference's elements: which is less, the modulus, differences and sums of two words.
-/
import Derived.Test.YtnlnbikiocdpdaaDoorRows
import Derived.Test.YtnlnbikiocdpdaaDoorMath
import Derived.WalkKit
import Derived.ProofKit
import Derived.Outline
import Derived.Deep.RegionHeld3
namespace Go.Proofs.YtnlnbikiocdpdaaDoor
open Go.RowKit F

theorem less_raw (a0 a1 b0 b1 : Int) (w : World) :
    Calls Tryd.prog 30 #[.agg #[.int .u64 a0, .int .u64 a1], .agg #[.int .u64 b0, .int .u64 b1]] w fun e w' => e = .returned (.bool (if a1 = b1 then decide (a0 < b0) else decide (a1 < b1))) ∧ Below w.heap.size w w' := by
  by_cases h : a1 = b1
  · subst h
    go_enter Tryd.func30, Tryd.ntmps30
    go_wp2
    go_ret
    exact ⟨rfl, ((Below.refl _ _).alloc (Nat.le_refl _) _).alloc (by simp) _⟩
  · go_enter Tryd.func30, Tryd.ntmps30
    go_wp2
    go_ret
    exact ⟨rfl, ((Below.refl _ _).alloc (Nat.le_refl _) _).alloc (by simp) _⟩

theorem less_any (x y : Int) (w : World) :
    Calls Tryd.prog 30 #[.agg #[.int .u64 (lo x), .int .u64 (hi x)], .agg #[.int .u64 (lo y), .int .u64 (hi y)]] w fun e w' => e = .returned (.bool (decide (x < y))) ∧ Below w.heap.size w w' := by
  have h := less_raw (lo x) (hi x) (lo y) (hi y) w
  rw [less_val _ _ _ _ (lo_nonneg _) (lo_lt _) (lo_nonneg _) (lo_lt _), val_lohi, val_lohi] at h
  exact h

theorem p_one (w : World) :
    Calls Tryd.prog 31 #[.int .i64 1] w fun e w' => e = .returned (.agg #[.int .u64 18446744069414584321, .int .u64 0]) ∧ Below w.heap.size w w' := by
  go_enter Tryd.func31, Tryd.ntmps31
  go_wp2
  exact bodyPost_ret (v := .agg #[.int .u64 18446744069414584321, .int .u64 0]) (by simp [results, Tryd.results31, go_sem]) rfl ⟨rfl, ((Below.refl _ _).alloc (Nat.le_refl _) _)⟩

theorem p_else (f : Int) (h : f ≠ 1) (w : World) :
    Calls Tryd.prog 31 #[.int .i64 f] w fun e w' => e = .returned (.agg #[.int .u64 1, .int .u64 18446744073709551588]) ∧ Below w.heap.size w w' := by
  go_enter Tryd.func31, Tryd.ntmps31
  go_wp2
  exact bodyPost_ret (v := .agg #[.int .u64 1, .int .u64 18446744073709551588]) (by simp [results, Tryd.results31, go_sem]) rfl ⟨rfl, ((Below.refl _ _).alloc (Nat.le_refl _) _)⟩

theorem p_any (f : Int) (w : World) :
    Calls Tryd.prog 31 #[.int .i64 f] w fun e w' => e = .returned (.agg #[.int .u64 (lo (M f)), .int .u64 (hi (M f))]) ∧ Below w.heap.size w w' := by
  by_cases h : f = 1
  · subst h; exact p_one w
  · have h' := p_else f h w
    rw [show lo (M f) = 1 from by unfold M lo; rw [if_neg h]; decide, show hi (M f) = 18446744073709551588 from by unfold M hi; rw [if_neg h]; decide]
    exact h'

theorem take_raw (a0 a1 b0 b1 : Int) (w : World) :
    Calls Tryd.prog 32 #[.agg #[.int .u64 a0, .int .u64 a1], .agg #[.int .u64 b0, .int .u64 b1]] w fun e w' => e = .returned (.agg #[.int .u64 (IntKind.u64.wrap (a0 - b0)), .int .u64 (if a0 < b0 then IntKind.u64.wrap (IntKind.u64.wrap (a1 - b1) - 1) else IntKind.u64.wrap (a1 - b1))]) ∧ Below w.heap.size w w' := by
  by_cases h : a0 < b0
  · rw [if_pos h]
    go_enter Tryd.func32, Tryd.ntmps32
    go_wp2
    exact bodyPost_ret (v := .agg #[.int .u64 (IntKind.u64.wrap (a0 - b0)), .int .u64 (IntKind.u64.wrap (IntKind.u64.wrap (a1 - b1) - 1))]) (by simp [results, Tryd.results32, go_sem]) rfl
      ⟨rfl, ((((Below.refl _ _).alloc (Nat.le_refl _) _).alloc (by simp) _).alloc (by simp; omega) _).alloc (by simp; omega) _⟩
  · rw [if_neg h]
    go_enter Tryd.func32, Tryd.ntmps32
    go_wp2
    exact bodyPost_ret (v := .agg #[.int .u64 (IntKind.u64.wrap (a0 - b0)), .int .u64 (IntKind.u64.wrap (a1 - b1))]) (by simp [results, Tryd.results32, go_sem]) rfl
      ⟨rfl, ((((Below.refl _ _).alloc (Nat.le_refl _) _).alloc (by simp) _).alloc (by simp; omega) _).alloc (by simp; omega) _⟩

theorem take_any (x y : Int) (hy : 0 ≤ y) (h : y ≤ x) (hx : x < 340282366920938463463374607431768211456) (w : World) :
    Calls Tryd.prog 32 #[.agg #[.int .u64 (lo x), .int .u64 (hi x)], .agg #[.int .u64 (lo y), .int .u64 (hi y)]] w fun e w' => e = .returned (.agg #[.int .u64 (lo (x - y)), .int .u64 (hi (x - y))]) ∧ Below w.heap.size w w' := by
  have h1 := take_eq (lo x) (hi x) (lo y) (hi y) (lo_nonneg _) (lo_lt _) (lo_nonneg _) (lo_lt _) (by rw [val_lohi, val_lohi]; exact h) (by unfold hi; omega) (by unfold hi; omega)
  rw [val_lohi, val_lohi] at h1
  rw [h1.1, h1.2]
  have h2 := take_raw (lo x) (hi x) (lo y) (hi y) w
  simp only [IntKind.wrap_u64] at h2
  exact h2

theorem plus_raw (a0 a1 b0 b1 : Int) (w : World) :
    Calls Tryd.prog 41 #[.agg #[.int .u64 a0, .int .u64 a1], .agg #[.int .u64 b0, .int .u64 b1]] w fun e w' => e = .returned (.agg #[.int .u64 (IntKind.u64.wrap (a0 + b0)), .int .u64 (if IntKind.u64.wrap (a0 + b0) < a0 then IntKind.u64.wrap (IntKind.u64.wrap (a1 + b1) + 1) else IntKind.u64.wrap (a1 + b1))]) ∧ Below w.heap.size w w' := by
  by_cases h : IntKind.u64.wrap (a0 + b0) < a0
  · rw [if_pos h]
    go_enter Tryd.func41, Tryd.ntmps41
    go_wp2
    exact bodyPost_ret (v := .agg #[.int .u64 (IntKind.u64.wrap (a0 + b0)), .int .u64 (IntKind.u64.wrap (IntKind.u64.wrap (a1 + b1) + 1))]) (by simp [results, Tryd.results41, go_sem]) rfl
      ⟨rfl, ((((Below.refl _ _).alloc (Nat.le_refl _) _).alloc (by simp) _).alloc (by simp; omega) _).alloc (by simp; omega) _⟩
  · rw [if_neg h]
    go_enter Tryd.func41, Tryd.ntmps41
    go_wp2
    exact bodyPost_ret (v := .agg #[.int .u64 (IntKind.u64.wrap (a0 + b0)), .int .u64 (IntKind.u64.wrap (a1 + b1))]) (by simp [results, Tryd.results41, go_sem]) rfl
      ⟨rfl, ((((Below.refl _ _).alloc (Nat.le_refl _) _).alloc (by simp) _).alloc (by simp; omega) _).alloc (by simp; omega) _⟩

theorem plus_any (x y : Int) (hy : 0 ≤ y) (hx : 0 ≤ x) (h : x + y < 340282366920938463463374607431768211456) (w : World) :
    Calls Tryd.prog 41 #[.agg #[.int .u64 (lo x), .int .u64 (hi x)], .agg #[.int .u64 (lo y), .int .u64 (hi y)]] w fun e w' => e = .returned (.agg #[.int .u64 (lo (x + y)), .int .u64 (hi (x + y))]) ∧ Below w.heap.size w w' := by
  have h1 := plus_eq (lo x) (hi x) (lo y) (hi y) (lo_nonneg _) (lo_lt _) (lo_nonneg _) (lo_lt _) (by rw [val_lohi, val_lohi]; exact h) (by unfold hi; omega) (by unfold hi; omega)
  rw [val_lohi, val_lohi] at h1
  rw [h1.1, h1.2]
  have h2 := plus_raw (lo x) (hi x) (lo y) (hi y) w
  simp only [IntKind.wrap_u64] at h2
  exact h2
end Go.Proofs.YtnlnbikiocdpdaaDoor
