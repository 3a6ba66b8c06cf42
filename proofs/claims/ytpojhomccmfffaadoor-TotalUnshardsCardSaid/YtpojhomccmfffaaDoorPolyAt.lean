/-
  Contracts of poly: a polynomial's value.
-/
import Derived.Test.YtpojhomccmfffaaDoorBE
namespace Go.Proofs.YtpojhomccmfffaaDoor
open Go.RowKit F Flow
set_option linter.unusedVariables false
attribute [local go_sem] eql_elem

/-- A polynomial's value, from its last coefficient on. -/
def hz (mul add : Int → Int → Int) (x : Int) : List Int → Int
  | [] => 0
  | c :: cs => add (mul (hz mul add x cs) x) c
theorem hz_drop (mul add : Int → Int → Int) (x : Int) {p : List Int} {k : Nat} (h : k < p.length) : hz mul add x (p.drop k) = add (mul (hz mul add x (p.drop (k + 1))) x) (p.getD k 0) := by
  rw [List.drop_eq_getElem_cons h, hz]
  simp [h]
end Go.Proofs.YtpojhomccmfffaaDoor
