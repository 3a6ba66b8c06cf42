/-
  Contracts of package field: inverses of a list, by one inverse for all.
-/
import Derived.Test.YtnlnbikiocdpdaaDoorFieldPow
namespace Go.Proofs.YtnlnbikiocdpdaaDoor
open Go.RowKit F Flow
set_option linter.unusedVariables false
attribute [local go_sem] eql_elem

theorem mul_comm' (f a b : Int) : mul f a b = mul f b a := by unfold mul; rw [Int.mul_comm]
theorem redu_mul (f a b : Int) : redu f (mul f a b) = mul f a b := redu_of_lt (mul_bound f a b).1 (mul_bound f a b).2
theorem mul_assoc' (f a b c : Int) : mul f (mul f a b) c = mul f a (mul f b c) := by
  show redu f (mul f a b) * redu f c % M f = redu f a * redu f (mul f b c) % M f
  rw [redu_mul, redu_mul]
  unfold mul
  rw [Int.mul_emod, Int.emod_emod, ← Int.mul_emod, Int.mul_assoc]
  conv => rhs; rw [Int.mul_emod, Int.emod_emod, ← Int.mul_emod]
theorem mul_one' (f a : Int) : mul f a 1 = redu f a := by
  have h1 : redu f 1 = 1 := redu_of_lt (by omega) (by have := M_pos f; unfold M; split <;> omega)
  unfold mul
  rw [h1, Int.mul_one]
  exact Int.emod_eq_of_lt (redu_nonneg f a) (redu_lt f a)
theorem mul_redu_r (f a b : Int) : mul f a (redu f b) = mul f a b := by unfold mul; rw [redu_redu]
theorem mul_zero_of {f a b : Int} (h : redu f a = 0) : mul f a b = 0 := by unfold mul; rw [h, Int.zero_mul, Int.zero_emod]
theorem redu_of_unit {f a b : Int} (h : mul f a b = 1) : redu f a ≠ 0 := fun e => by rw [mul_zero_of e] at h; cases h
/-- The product of the first elements. -/
def prods (f : Int) (xs : List Int) (k : Nat) : Int := (xs.take k).foldl (mul f) 1
theorem prods_zero (f : Int) (xs : List Int) : prods f xs 0 = 1 := rfl
theorem prods_succ {f : Int} {xs : List Int} {k : Nat} (hk : k < xs.length) : prods f xs (k + 1) = mul f (prods f xs k) (xs.getD k 0) := by
  unfold prods
  rw [List.take_succ_eq_append_getElem hk, List.foldl_append]
  simp [hk]
theorem prods_ok (f : Int) (xs : List Int) (k : Nat) : 0 ≤ prods f xs k ∧ prods f xs k < 340282366920938463463374607431768211456 := by
  unfold prods
  have key : ∀ (l : List Int) (s : Int), 0 ≤ s ∧ s < 340282366920938463463374607431768211456 → 0 ≤ l.foldl (mul f) s ∧ l.foldl (mul f) s < 340282366920938463463374607431768211456 := by
    intro l
    induction l with
    | nil => exact fun s h => h
    | cons x l ih => exact fun s _ => ih _ (by have h := mul_bound f s x; have := M_lt f; omega)
  exact key _ _ (by omega)
/-- Every element has one by which it is 1. -/
def Units (f : Int) (xs : List Int) (k : Nat) : Prop := ∀ i, i < k → i < xs.length → ∃ y, mul f (xs.getD i 0) y = 1
theorem prods_unit {f : Int} {xs : List Int} : ∀ {k : Nat}, k ≤ xs.length → Units f xs k → ∃ y, mul f (prods f xs k) y = 1
  | 0, _, _ => ⟨1, by rw [prods_zero, mul_one']; exact redu_of_lt (by omega) (by unfold M; split <;> omega)⟩
  | k + 1, hk, hu => by
    obtain ⟨y, hy⟩ := prods_unit (k := k) (by omega) (fun i hi => hu i (by omega))
    obtain ⟨z, hz⟩ := hu k (by omega) (by omega)
    refine ⟨mul f z y, ?_⟩
    rw [prods_succ (by omega), mul_assoc', ← mul_assoc' f _ z y, hz, mul_comm' f 1 y, mul_one', mul_redu_r]
    exact hy
/-- What one division says of each element. -/
def InvBy (f : Int) : Prop := ∀ a, 0 ≤ a → a < 340282366920938463463374607431768211456 →
  (redu f a = 0 → ∀ w, Calls Tryd.prog 27 #[.int .u8 f, .agg #[.int .u64 (lo a), .int .u64 (hi a)]] w fun e w' => e = .returned (.tuple #[.agg #[.int .u64 0, .int .u64 0], .int .i64 8]) ∧ Below w.heap.size w w') ∧
  (redu f a ≠ 0 → ∃ v, (0 ≤ v ∧ v < M f) ∧ mul f a v = 1 ∧ ∀ w, Calls Tryd.prog 27 #[.int .u8 f, .agg #[.int .u64 (lo a), .int .u64 (hi a)]] w fun e w' => e = .returned (.tuple #[.agg #[.int .u64 (lo v), .int .u64 (hi v)], .int .i64 0]) ∧ Below w.heap.size w w')
theorem invBy1 : InvBy 1 := fun a a0 a1 => by
  have hl : redu 1 (lo a) = redu 1 a := redu_lo1 a
  refine ⟨fun hz w => ?_, fun hz => ?_⟩
  · exact finv_one a 0 8 (ginv_zero (lo a) (lo_nonneg a) (lo_lt a) (by rw [hl]; exact hz)) w
  · have hp := pow_bound 1 (lo a) 18446744069414584319
    have h1 := inv_one (lo_nonneg a) (lo_lt a) (by rw [hl]; exact hz)
    have hp2 := hp
    rw [M1] at hp2
    have key := ginv_other (lo a) (lo_nonneg a) (lo_lt a) (by rw [hl]; exact hz)
    generalize pow 1 (lo a) 18446744069414584319 = v at *
    refine ⟨v, hp, ?_, fun w => ?_⟩
    · have e : mul 1 (lo a) v = mul 1 a v := by unfold mul; rw [hl]
      rwa [e] at h1
    · rw [lo_of_lt hp2.1 (by omega), hi_of_lt hp2.1 (by omega)]
      exact finv_one a v 0 key w
theorem invBy2 : InvBy 2 := fun a a0 a1 => by
  refine ⟨fun hz w => finv_two a _ _ 8 (winv_zero a a0 a1 hz) w, fun hz => ?_⟩
  have key := winv_other a a0 a1 hz
  have h1 := winv_one a0 hz
  have hp := pow_bound 2 a 340282366920938462946865773367900766207
  generalize pow 2 a 340282366920938462946865773367900766207 = v at *
  exact ⟨v, hp, h1, fun w => finv_two a _ _ 0 key w⟩
/-- The products ahead of each place. -/
def aheads (f : Int) (xs : List Int) (k : Nat) : List Int := (List.range k).map (prods f xs)
theorem aheads_length (f : Int) (xs : List Int) (k : Nat) : (aheads f xs k).length = k := by simp [aheads]
theorem aheads_at (f : Int) (xs : List Int) {n k : Nat} (h : k < n) : (aheads f xs n).getD k 0 = prods f xs k := by simp [aheads, h]
theorem aheads_set {f : Int} {xs : List Int} {n k : Nat} (h : k < n) : (aheads f xs k ++ List.replicate (n - k) 0).set k (prods f xs k) = aheads f xs (k + 1) ++ List.replicate (n - (k + 1)) 0 := by
  rw [List.set_append_right _ _ (by simp [aheads])]
  rw [aheads_length, Nat.sub_self, show n - k = (n - (k + 1)) + 1 by omega, List.replicate_succ, List.set_cons_zero]
  simp [aheads, List.range_succ]
/-- What the inverses of a list are. -/
def Inverses (f : Int) (xs rs : List Int) : Prop := rs.length = xs.length ∧ ∀ i, i < xs.length → (0 ≤ rs.getD i 0 ∧ rs.getD i 0 < M f) ∧ mul f (xs.getD i 0) (rs.getD i 0) = 1
/-- From place k on all is done. -/
def Back (f : Int) (xs rs : List Int) (k : Nat) : Prop := rs.length = xs.length - k ∧ ∀ j, j < xs.length - k → (0 ≤ rs.getD j 0 ∧ rs.getD j 0 < M f) ∧ mul f (xs.getD (k + j) 0) (rs.getD j 0) = 1
theorem Back.step {f : Int} {xs rs : List Int} {k : Nat} {q : Int} (h : Back f xs rs (k + 1)) (hk : k < xs.length) (hq : mul f (prods f xs (k + 1)) q = 1) :
    Back f xs (mul f (prods f xs k) q :: rs) k ∧ mul f (prods f xs k) (mul f q (xs.getD k 0)) = 1 := by
  have e : mul f (xs.getD k 0) (mul f (prods f xs k) q) = 1 := by
    rw [← mul_assoc', mul_comm' f (xs.getD k 0), ← prods_succ hk]; exact hq
  refine ⟨⟨by simp [h.1]; omega, fun j hj => ?_⟩, ?_⟩
  · cases j with
    | zero => exact ⟨mul_bound f _ _, by simpa using e⟩
    | succ j =>
      have := h.2 j (by omega)
      rw [show k + (j + 1) = k + 1 + j by omega]
      simpa using this
  · rw [mul_comm' f q, ← mul_assoc', ← prods_succ hk]; exact hq
theorem Back.whole {f : Int} {xs rs : List Int} (h : Back f xs rs 0) : Inverses f xs rs := ⟨by simpa using h.1, fun i hi => by have := h.2 i (by omega); simpa using this⟩
theorem back_set {f : Int} {xs rs : List Int} {k : Nat} {z : Int} : (aheads f xs (k + 1) ++ rs).set k z = aheads f xs k ++ (z :: rs) := by
  have e : aheads f xs (k + 1) = aheads f xs k ++ [prods f xs k] := by simp [aheads, List.range_succ]
  rw [e, List.append_assoc, List.set_append_right _ _ (by simp [aheads])]
  rw [aheads_length, Nat.sub_self]
  rfl
end Go.Proofs.YtnlnbikiocdpdaaDoor
