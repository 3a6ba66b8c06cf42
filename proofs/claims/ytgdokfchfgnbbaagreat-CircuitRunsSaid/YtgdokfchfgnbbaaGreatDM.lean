import Derived.Test.YtgdokfchfgnbbaaGreatDL
import Derived.Deep.DeepCutAuto
import Derived.Deep.CutBlock
/-
  What is measured as a vector, as the document says: a Count, a Histogram, a Multihot.
-/
namespace Go.Proofs.YtgdokfchfgnbbaaGreat
open Go.RowKit Flow F
set_option linter.unusedVariables false
set_option linter.unusedSimpArgs false

/-- The 1 at a place, up to so many. -/
def uptoU (z t : Nat) : List Int := (List.range t).map fun i => if i = z then 1 else 0
theorem uptoU_succ (z t : Nat) : uptoU z (t + 1) = uptoU z t ++ [if t = z then 1 else 0] := by simp [uptoU, List.range_succ]
theorem uptoU_unit {z l : Nat} (hz : z < l) : uptoU z l = unit l z := by
  have hl1 : (uptoU z l).length = l := by simp [uptoU]
  have hl2 : (unit l z).length = l := by simp [unit]
  refine List.ext_getElem (by omega) fun i h1 h2 => ?_
  have e := unit_at hz (i := i) (by omega)
  rw [List.getD_eq_getElem?_getD, List.getElem?_eq_getElem h2] at e
  have e' : (unit l z)[i] = if i = z then 1 else 0 := e
  rw [e']
  simp [uptoU]
theorem ones_le2 {zs : List Int} (h : allLe 1 zs = true) (h0 : WordsOK zs) : ones zs ≤ zs.length := ones_le (bitsB_of fun z hz => ⟨(h0 z hz).1, by unfold allLe at h; rw [List.all_eq_true] at h; simpa using h z hz⟩)
theorem WordsOK.take {zs : List Int} (h : WordsOK zs) (k : Nat) : WordsOK (zs.take k) := fun z hz => h z (List.mem_of_mem_take hz)
end Go.Proofs.YtgdokfchfgnbbaaGreat

/-
  What is measured as a vector, as the document says: a Multihot; any circuit.
-/
namespace Go.Proofs.YtgdokfchfgnbbaaGreat
open Go.RowKit Flow F
set_option linter.unusedVariables false
set_option linter.unusedSimpArgs false

end Go.Proofs.YtgdokfchfgnbbaaGreat

/-
  The law's numbers that may be measured: some numbers.
-/
namespace Go.Proofs.YtgdokfchfgnbbaaGreat
open Go.RowKit Flow F
set_option linter.unusedVariables false
set_option linter.unusedSimpArgs false

def MeasOut (w : World) (e : Ending) (w' : World) : Prop := ∃ (A : Option Addr) (zs : List Int) (c : Nat), e = .returned (.slice A zs.length c) ∧ Below w.heap.size w w' ∧ WordsOK zs ∧ zs.length ≤ 64 ∧ WordsAt w' A zs
theorem owns_words2 {w : World} {base : Nat} {v : Value} {L : List Int} (h : w.ownsRow base 33 1 v L.length (wcells L)) : ∃ a c, v = .slice a L.length c ∧ WordsAt w a L := owns_words h
theorem mod_two (V : Nat) : ∃ V2 : Nat, V2 ≤ 1 ∧ (V : Int).tmod 2 = (V2 : Int) ∧ (V : Int) % 2 = (V2 : Int) ∧ IntKind.u64.wrap (V2 : Int) = (V2 : Int) := ⟨V % 2, by omega, rfl, by omega, by rw [IntKind.wrap_u64]; omega⟩
end Go.Proofs.YtgdokfchfgnbbaaGreat
