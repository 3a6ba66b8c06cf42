/-
  What all laws of layer 2 lean on.
-/
import Derived.Test.YtailpfbdanhpmaaWideD
import Derived.Test.YtailpfbdanhpmaaPost
import Derived.Test.YtailpfbdanhpmaaArr
import Derived.Test.YtailpfbdanhpmaaGoldC
namespace Go.Proofs.Ytailpfbdanhpmaa
open Go.ChangeShapes Go.WideShapes Go.ChangeAt Go.RowKit F Flow
set_option linter.unusedVariables false
attribute [local go_sem] eql_elem

theorem cells_elem : (Try.prog).cellsOf 35 = 2 := by kernel_rfl
theorem cells_u64 : (Try.prog).cellsOf 33 = 1 := by kernel_rfl
theorem open_elem {H : Type} {enc : TypeId × Value → H} {w : World} {base : Nat} {spare : Nat → Bool} {held : Bool} {r : Reach} {b0 : Nat} {v : Value} {d : DataW H} {p : List MemPlace}
    (hv : Value.okWide Try.prog w r b0 35 v) (h : DataW.Trod enc Try.prog w base spare held 35 v d p) :
    ∃ x : Int, 0 ≤ x ∧ x < 340282366920938463463374607431768211456 ∧ v = .agg #[.int .u64 (lo x), .int .u64 (hi x)] ∧ d = .agg [.lit (.int .u64 (lo x)), .lit (.int .u64 (hi x))] ∧ p = [] := by
  obtain ⟨zs, hn, rfl, rfl, rfl, hw⟩ := open_int_array Try.underlying35 Try.underlying33 cells_u64 cells_elem hv h
  obtain ⟨a, b, rfl⟩ : ∃ a b, zs = [a, b] := by
    match zs, hn with
    | [a, b], _ => exact ⟨a, b, rfl⟩
  obtain ⟨a0, a1⟩ := wf_u64 (hw a (by simp))
  obtain ⟨b0, b1⟩ := wf_u64 (hw b (by simp))
  refine ⟨val a b, by unfold val; omega, by unfold val; omega, ?_⟩
  rw [lo_val a0 a1, hi_val a0 a1]
  exact ⟨rfl, rfl, rfl⟩
theorem shut_elem {H : Type} {enc : TypeId × Value → H} {w : World} {base : Nat} {spare : Nat → Bool} {held : Bool} {x : Int} (h0 : 0 ≤ x) (h1 : x < 340282366920938463463374607431768211456) :
    DataW.Trod enc Try.prog w base spare held 35 (.agg #[.int .u64 (lo x), .int .u64 (hi x)]) (.agg [.lit (.int .u64 (lo x)), .lit (.int .u64 (hi x))]) [] :=
  shut_int_array (zs := [lo x, hi x]) Try.underlying35 Try.underlying33 cells_u64 cells_elem rfl (fun z hz => by
    have a0 := lo_nonneg x
    have a1 := lo_lt x
    have b0 := hi_nonneg h0
    have b1 := hi_lt h1
    have hz' : z = lo x ∨ z = hi x := by simpa using hz
    rcases hz' with rfl | rfl <;> simp [Lit.wf, IntKind.min, IntKind.max, IntKind.signed, IntKind.bits] <;> omega)

theorem redu2_bound (a : Int) : 0 ≤ redu 2 a ∧ redu 2 a < 340282366920938463463374607431768211456 := by
  have b0 := redu_nonneg 2 a
  have b1 := redu_lt 2 a
  rw [M2] at b1
  omega
theorem lohi_eq {x y : Int} : (lo x == lo y && hi x == hi y) = (x == y) := by
  rw [Bool.eq_iff_iff]
  simp only [Bool.and_eq_true, beq_iff_eq]
  constructor
  · rintro ⟨h1, h2⟩; rw [← val_lohi x, ← val_lohi y, h1, h2]
  · rintro rfl; exact ⟨rfl, rfl⟩
theorem win_iff {a : Int} (h0 : 0 ≤ a) (h1 : a < 340282366920938463463374607431768211456) : (lo (redu 2 a) == lo a && hi (redu 2 a) == hi a) = decide (a < M 2) := by
  rw [lohi_eq, Bool.eq_iff_iff]
  simp only [beq_iff_eq, decide_eq_true_eq]
  constructor
  · intro h; rw [← h]; exact redu_lt 2 a
  · intro h; exact redu_small (by decide) h0 h

end Go.Proofs.Ytailpfbdanhpmaa
