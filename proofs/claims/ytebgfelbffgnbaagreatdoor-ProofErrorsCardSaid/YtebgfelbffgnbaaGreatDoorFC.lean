import Derived.Test.YtebgfelbffgnbaaGreatDoorFB
import Derived.Deep.DeepCutAuto
import Derived.Deep.CutBlock
import Derived.Test.YtebgfelbffgnbaaGreatDoorPolyAt
/-
  The document's own sums and products of polynomials.
-/
namespace Go.Proofs.YtebgfelbffgnbaaGreatDoor
open Go.RowKit F Flow
set_option linter.unusedVariables false
set_option linter.unusedSimpArgs false
attribute [local go_sem] eql_elem

/-- A list of such elements, wherever it lies. -/
def ROut (F : Nat → Int) (n : Nat) (w : World) (e : Ending) (w' : World) : Prop := ∃ A c, n ≤ c ∧ e = .returned (.slice A n c) ∧ Below w.heap.size w w' ∧ ElemsAt w' A (lst F n)
/-- Some of a list, as elements. -/
def rl (f : Int) (ls : List Int) (i : Nat) : Int := redu f (ls.getD i 0)
/-- The same, and the list is new. -/
def SOut (F : Nat → Int) (n : Nat) (w : World) (e : Ending) (w' : World) : Prop := ∃ A c, n ≤ c ∧ e = .returned (.slice A n c) ∧ Below w.heap.size w w' ∧ ElemsAt w' A (lst F n) ∧ ∀ b o, A = some ⟨b, o, none⟩ → w.heap.size ≤ b
end Go.Proofs.YtebgfelbffgnbaaGreatDoor

/-
  The document's own sums of polynomials.
-/
namespace Go.Proofs.YtebgfelbffgnbaaGreatDoor
open Go.RowKit F Flow
set_option linter.unusedVariables false
set_option linter.unusedSimpArgs false
attribute [local go_sem] eql_elem

end Go.Proofs.YtebgfelbffgnbaaGreatDoor

/-
  The document's own products of polynomials.
-/
namespace Go.Proofs.YtebgfelbffgnbaaGreatDoor
open Go.RowKit F Flow
set_option linter.unusedVariables false
set_option linter.unusedSimpArgs false
attribute [local go_sem] eql_elem

end Go.Proofs.YtebgfelbffgnbaaGreatDoor

/-
  Polynomials: values; products by the program and by the document; the example.
-/
namespace Go.Proofs.YtebgfelbffgnbaaGreatDoor
open Go.RowKit F Flow
set_option linter.unusedVariables false
set_option linter.unusedSimpArgs false
attribute [local go_sem] eql_elem

theorem rd_same {f : Int} {F : Nat → Int} (h : ∀ t, 0 ≤ F t ∧ F t < M f) : rd f F = F := by
  funext t
  exact redu_of_lt (h t).1 (h t).2
end Go.Proofs.YtebgfelbffgnbaaGreatDoor
