/-
  What of a vector is summed.
-/
import Derived.Test.YtebgfelbffgnbaaGreatDoorDD
import Derived.Test.YtebgfelbffgnbaaGreatDoorBA
import Derived.Test.YtebgfelbffgnbaaGreatDoorBX
namespace Go.Proofs.YtebgfelbffgnbaaGreatDoor
open Go.RowKit Flow F
set_option linter.unusedVariables false
set_option linter.unusedSimpArgs false
attribute [local go_sem] eql_elem

/-- Piece number so of so many elements. -/
def piece (xs : List Int) (b i : Nat) : List Int := (xs.drop (i * b)).take b
/-- What of a vector is summed. -/
def truncF (x : Ci) (xs : List Int) (i : Nat) : Int := if x.k = 2 ∨ x.k = 3 then numF x.f (piece xs x.b.toNat i) else add x.f 0 (xs.getD i 0)
def truncL (x : Ci) (xs : List Int) : List Int := (List.range x.outN).map (truncF x xs)
def rangeL (h : Nat → Int) (n : Nat) : List Int := (List.range n).map h
theorem rangeL_set (h : Nat → Int) {n j : Nat} (hj : j < n) : (rangeL h j ++ List.replicate (n - j) 0).set j (h j) = rangeL h (j + 1) ++ List.replicate (n - (j + 1)) 0 := by
  have hl : (rangeL h j).length = j := by simp [rangeL]
  rw [List.set_append_right _ _ (by omega), hl, Nat.sub_self, show n - j = (n - (j + 1)) + 1 by omega, List.replicate_succ, List.set_cons_zero]
  simp [rangeL, List.range_succ]
def TrOut (L : List Int) (w : World) (e : Ending) (w' : World) : Prop := ∃ g, e = .returned (.tuple #[.slice (some ⟨g, 0, none⟩) L.length L.length, .int .i64 0]) ∧ Below w.heap.size w w' ∧ w.heap.size ≤ g ∧ Row w' g L
end Go.Proofs.YtebgfelbffgnbaaGreatDoor
