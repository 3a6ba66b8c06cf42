/-
  What all laws of layer 2 lean on.
-/
import Derived.Test.YtnlnbikiocdpdaaDoorWideD
import Derived.Test.YtnlnbikiocdpdaaDoorPost
import Derived.Test.YtnlnbikiocdpdaaDoorArr
import Derived.Test.YtnlnbikiocdpdaaDoorGoldC
namespace Go.Proofs.YtnlnbikiocdpdaaDoor
open Go.ChangeShapes Go.WideShapes Go.ChangeAt Go.RowKit F Flow
set_option linter.unusedVariables false
attribute [local go_sem] eql_elem

theorem cells_elem : (Tryd.prog).cellsOf 34 = 2 := by kernel_rfl
theorem cells_u64 : (Tryd.prog).cellsOf 32 = 1 := by kernel_rfl
theorem open_elem {H : Type} {enc : TypeId × Value → H} {w : World} {base : Nat} {spare : Nat → Bool} {held : Bool} {r : Reach} {b0 : Nat} {v : Value} {d : DataW H} {p : List MemPlace}
    (hv : Value.okWide Tryd.prog w r b0 34 v) (h : DataW.Trod enc Tryd.prog w base spare held 34 v d p) :
    ∃ x : Int, 0 ≤ x ∧ x < 340282366920938463463374607431768211456 ∧ v = .agg #[.int .u64 (lo x), .int .u64 (hi x)] ∧ d = .agg [.lit (.int .u64 (lo x)), .lit (.int .u64 (hi x))] ∧ p = [] := by
  obtain ⟨zs, hn, rfl, rfl, rfl, hw⟩ := open_int_array Tryd.underlying34 Tryd.underlying32 cells_u64 cells_elem hv h
  obtain ⟨a, b, rfl⟩ : ∃ a b, zs = [a, b] := by
    match zs, hn with
    | [a, b], _ => exact ⟨a, b, rfl⟩
  obtain ⟨a0, a1⟩ := wf_u64 (hw a (by simp))
  obtain ⟨b0, b1⟩ := wf_u64 (hw b (by simp))
  refine ⟨val a b, by unfold val; omega, by unfold val; omega, ?_⟩
  rw [lo_val a0 a1, hi_val a0 a1]
  exact ⟨rfl, rfl, rfl⟩
theorem shut_elem {H : Type} {enc : TypeId × Value → H} {w : World} {base : Nat} {spare : Nat → Bool} {held : Bool} {x : Int} (h0 : 0 ≤ x) (h1 : x < 340282366920938463463374607431768211456) :
    DataW.Trod enc Tryd.prog w base spare held 34 (.agg #[.int .u64 (lo x), .int .u64 (hi x)]) (.agg [.lit (.int .u64 (lo x)), .lit (.int .u64 (hi x))]) [] :=
  shut_int_array (zs := [lo x, hi x]) Tryd.underlying34 Tryd.underlying32 cells_u64 cells_elem rfl (fun z hz => by
    have a0 := lo_nonneg x
    have a1 := lo_lt x
    have b0 := hi_nonneg h0
    have b1 := hi_lt h1
    have hz' : z = lo x ∨ z = hi x := by simpa using hz
    rcases hz' with rfl | rfl <;> simp [Lit.wf, IntKind.min, IntKind.max, IntKind.signed, IntKind.bits] <;> omega)

theorem redu2_bound (a : Int) : 0 ≤ redu 2 a ∧ redu 2 a < 340282366920938463463374607431768211456 := by
  have b0 := redu_nonneg 2 a
  have b1 := redu_lt 2 a
  rw [M2] at b1
  omega
theorem lohi_eq {x y : Int} : (lo x == lo y && hi x == hi y) = (x == y) := by
  rw [Bool.eq_iff_iff]
  simp only [Bool.and_eq_true, beq_iff_eq]
  constructor
  · rintro ⟨h1, h2⟩; rw [← val_lohi x, ← val_lohi y, h1, h2]
  · rintro rfl; exact ⟨rfl, rfl⟩
theorem win_iff {a : Int} (h0 : 0 ≤ a) (h1 : a < 340282366920938463463374607431768211456) : (lo (redu 2 a) == lo a && hi (redu 2 a) == hi a) = decide (a < M 2) := by
  rw [lohi_eq, Bool.eq_iff_iff]
  simp only [beq_iff_eq, decide_eq_true_eq]
  constructor
  · intro h; rw [← h]; exact redu_lt 2 a
  · intro h; exact redu_small (by decide) h0 h

end Go.Proofs.YtnlnbikiocdpdaaDoor
