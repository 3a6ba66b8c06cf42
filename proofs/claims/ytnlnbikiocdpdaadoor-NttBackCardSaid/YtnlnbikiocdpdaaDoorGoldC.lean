/-
  What all laws of layer 1 lean on: the reference's answers for numbers of one word.
-/
import Derived.Test.YtnlnbikiocdpdaaDoorGoldB
import Derived.Test.YtnlnbikiocdpdaaDoorPost
namespace Go.Proofs.YtnlnbikiocdpdaaDoor
open Go.ChangeShapes Go.WideShapes Go.ChangeAt Go.RowKit F Flow
set_option linter.unusedVariables false
attribute [local go_sem] eql_elem

theorem wf_u64 {a : Int} (h : (Lit.int .u64 a).wf = true) : 0 ≤ a ∧ a < 18446744073709551616 := by
  have : 0 ≤ a ∧ a ≤ 18446744073709551615 := by simpa [Lit.wf, IntKind.min, IntKind.max, IntKind.signed, IntKind.bits] using h
  omega

theorem ofE (a : Int) (h0 : 0 ≤ a) (h1 : a < 18446744073709551616) (w : World) :
    Calls Tryd.prog 15 #[.int .i64 1, .agg #[.int .u64 a, .int .u64 0]] w fun e w' => e = .returned (.agg #[.int .u64 (redu 1 a), .int .u64 0]) ∧ Below w.heap.size w w' := by
  have h := of_any 1 a h0 (by omega) w
  have b0 := redu_nonneg 1 a
  have b1 := redu_lt 1 a
  rw [M1] at b1
  rwa [lo_of_lt h0 h1, hi_of_lt h0 h1, lo_of_lt b0 (by omega), hi_of_lt b0 (by omega)] at h
theorem add_redu (f x y : Int) : add f (redu f x) (redu f y) = add f x y := by unfold add; rw [redu_redu, redu_redu]
theorem sub_redu (f x y : Int) : sub f (redu f x) (redu f y) = sub f x y := by unfold sub; rw [redu_redu, redu_redu]
theorem mul_redu (f x y : Int) : mul f (redu f x) (redu f y) = mul f x y := by unfold mul; rw [redu_redu, redu_redu]
theorem neg_redu (f x : Int) : neg f (redu f x) = neg f x := by unfold neg; rw [redu_redu]
theorem redu1_bound (a : Int) : 0 ≤ redu 1 a ∧ redu 1 a < 18446744073709551616 := by
  have b0 := redu_nonneg 1 a
  have b1 := redu_lt 1 a
  rw [M1] at b1
  omega
theorem addE (a b : Int) (w : World) :
    Calls Tryd.prog 25 #[.int .i64 1, .agg #[.int .u64 (redu 1 a), .int .u64 0], .agg #[.int .u64 (redu 1 b), .int .u64 0]] w fun e w' => e = .returned (.agg #[.int .u64 (add 1 a b), .int .u64 0]) ∧ Below w.heap.size w w' := by
  have ha := redu1_bound a
  have hb := redu1_bound b
  have h := add_any 1 (redu 1 a) (redu 1 b) ha.1 (by omega) hb.1 (by omega) w
  have hr := add_bound 1 a b
  rw [M1] at hr
  rwa [add_redu, lo_of_lt ha.1 ha.2, hi_of_lt ha.1 ha.2, lo_of_lt hb.1 hb.2, hi_of_lt hb.1 hb.2, lo_of_lt hr.1 (by omega), hi_of_lt hr.1 (by omega)] at h
theorem mulE (a b : Int) (w : World) :
    Calls Tryd.prog 26 #[.int .i64 1, .agg #[.int .u64 (redu 1 a), .int .u64 0], .agg #[.int .u64 (redu 1 b), .int .u64 0]] w fun e w' => e = .returned (.agg #[.int .u64 (mul 1 a b), .int .u64 0]) ∧ Below w.heap.size w w' := by
  have ha := redu1_bound a
  have hb := redu1_bound b
  have h := mul_any 1 (redu 1 a) (redu 1 b) ha.1 (by omega) hb.1 (by omega) w
  have hr := mul_bound 1 a b
  rw [M1] at hr
  rwa [mul_redu, lo_of_lt ha.1 ha.2, hi_of_lt ha.1 ha.2, lo_of_lt hb.1 hb.2, hi_of_lt hb.1 hb.2, lo_of_lt hr.1 (by omega), hi_of_lt hr.1 (by omega)] at h
theorem in_iff {a : Int} (h0 : 0 ≤ a) (h1 : a < 18446744073709551616) : (redu 1 a == a) = decide (a < 18446744069414584321) := by
  by_cases h : a < 18446744069414584321
  · rw [gredu_small h0 h]; simp [h]
  · rw [gredu_big (by omega) h1]
    have : ¬ (a - 18446744069414584321 = a) := by omega
    simp [h, this]

theorem below_of_same {w w' : World} (h : w = w') : Below w.heap.size w w' := h ▸ Below.refl _ _
theorem flow_same {P : Program} {f : FuncId} {args : Array Value} {W : World} {ι : Type} {φ : ι → World} {i : ι} {v : Value} (h : Family W ι φ)
    (hc : Calls P f args (φ i) fun e w' => e = .returned v ∧ φ i = w') : Calls P f args (φ i) fun e w' => e = .returned v ∧ ∃ j, w' = φ j :=
  flow_call h (hc.mono fun _ _ ⟨he, hw⟩ => ⟨he, below_of_same hw⟩)

end Go.Proofs.YtnlnbikiocdpdaaDoor
