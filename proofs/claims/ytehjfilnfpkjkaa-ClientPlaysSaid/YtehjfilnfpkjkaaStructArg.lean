/-
  A struct by value as an argument, opened; an array of whole numbers among its fields.
-/
import Derived.Test.YtehjfilnfpkjkaaRows
import Derived.WalkKit
import Derived.ProofKit
import Derived.OpenShut
import Derived.Deep.Slices
namespace Go.Proofs.Ytehjfilnfpkjkaa
open Go.RowKit Go.WideShapes Go.ChangeShapes
section
variable {H : Type} {enc : TypeId × Value → H} {P : Program} {w : World} {base : Nat} {spare : Nat → Bool} {held : Bool}
theorem okWide_struct {t : TypeId} {fs : Array Field} {r : Reach} {b0 : Nat} {v : Value} (ht : P.underlying t = some (.struct fs)) (h : Value.okWide P w r b0 t v) : ∃ cs : List Value, v = .agg cs.toArray := by
  simp only [Value.okWide, ht] at h
  obtain ⟨cs, h1, _⟩ := h
  exact ⟨cs.toList, h1⟩
theorem ints_of_trod {k : IntKind} {n : Nat} {t e : TypeId} {fuel : Nat} {cs : List Value} {x : DataW H × List MemPlace} (ht : P.underlying t = some (.array n e)) (he : P.underlying e = some (.int k)) (hce : P.cellsOf e = 1) (hC : P.cellsOf t = n)
    (h : DataW.trod enc P w base spare held fuel t cs = some x) : ∃ zs : List Int, zs.length = n ∧ cs = zs.map (Value.int k) ∧ ∀ z, z ∈ zs → (Lit.int k z).wf = true := by
  obtain ⟨ys, m, _, _, hl, hyl, hf⟩ := DataW.trod_array ht h
  rw [hC] at hl
  have key : ∀ i, i < n → ∃ z : Int, cs[i]? = some (.int k z) ∧ (Lit.int k z).wf = true := by
    intro i hi
    have h0 := hf i hi
    rw [hce, Nat.mul_one, List.drop_eq_getElem_cons (by omega : i < cs.length), List.take_succ_cons, List.take_zero, List.getElem?_eq_getElem (by omega : i < ys.length)] at h0
    obtain ⟨z, e0, _, wz⟩ := DataW.trod_int he h0
    refine ⟨z, ?_, wz⟩
    rw [List.getElem?_eq_getElem (by omega)]
    simpa using e0
  obtain ⟨f, hfz⟩ := Go.Deep.choose_lt key
  refine ⟨(List.range n).map f, by simp, ?_, fun z hz => ?_⟩
  · refine List.ext_getElem? fun i => ?_
    by_cases hi : i < n
    · rw [(hfz i hi).1]
      simp [hi]
    · rw [List.getElem?_eq_none (by omega), List.getElem?_eq_none (by simp; omega)]
  · obtain ⟨i, hi, rfl⟩ := List.mem_map.1 hz
    exact (hfz i (List.mem_range.1 hi)).2
end
end Go.Proofs.Ytehjfilnfpkjkaa
