import Derived.Test.YtpojhomccmfffaaDoorDG
import Derived.Test.YtpojhomccmfffaaDoorDH
/-
  How many points a circuit's domain has; which gadget it calls.
-/
namespace Go.Proofs.YtpojhomccmfffaaDoor
open Go.RowKit Flow F
set_option linter.unusedVariables false
set_option linter.unusedSimpArgs false
attribute [local go_sem] eql_elem

/-- The least power of two that isn't below a number. -/
def pow2 (n : Nat) : Nat := if n ≤ 1 then 1 else if n ≤ 2 then 2 else if n ≤ 4 then 4 else if n ≤ 8 then 8 else if n ≤ 16 then 16 else if n ≤ 32 then 32 else if n ≤ 64 then 64 else if n ≤ 128 then 128 else if n ≤ 256 then 256 else 512
theorem pow2_of {n X : Nat} {j : Nat} (hX : X = 2 ^ j) (hj : j ≤ 9) (h1 : j = 0 ∨ 2 ^ (j - 1) < n) (h2 : n ≤ X) : X = pow2 n := by
  subst hX
  unfold pow2
  have hc : j = 0 ∨ j = 1 ∨ j = 2 ∨ j = 3 ∨ j = 4 ∨ j = 5 ∨ j = 6 ∨ j = 7 ∨ j = 8 ∨ j = 9 := by omega
  rcases hc with rfl | rfl | rfl | rfl | rfl | rfl | rfl | rfl | rfl | rfl <;> simp at * <;> (repeat (first | omega | split))
theorem pow2_le {n : Nat} : pow2 n ≤ 512 ∧ 1 ≤ pow2 n := by
  unfold pow2
  repeat (first | omega | split)
end Go.Proofs.YtpojhomccmfffaaDoor

/-
  Which gadget a circuit calls; how many elements a proof, a verifier has.
-/
namespace Go.Proofs.YtpojhomccmfffaaDoor
open Go.RowKit Flow F
set_option linter.unusedVariables false
set_option linter.unusedSimpArgs false
attribute [local go_sem] eql_elem

/-- The gadget of a circuit. -/
def GadIs (x : Ci) (v : Value) (w : World) : Prop :=
  (x.k = 1 ∧ v = .agg #[.int .u8 1, .slice none 0 0, .int .i64 0]) ∨ (x.k = 2 ∧ ∃ g, v = bitVal g ∧ Row w g (bitCoefs x.f)) ∨ (3 ≤ x.k ∧ v = .agg #[.int .u8 3, .slice none 0 0, .int .i64 x.c])
theorem GadIs.up {x : Ci} {v : Value} {w w' : World} (h : GadIs x v w) (hb : Below w.heap.size w w') : GadIs x v w' := by
  rcases h with h | ⟨hk, g, hv, hr⟩ | h
  · exact .inl h
  · exact .inr (.inl ⟨hk, g, hv, hr.up hb⟩)
  · exact .inr (.inr h)
def GadOut (x : Ci) (w : World) (e : Ending) (w' : World) : Prop := ∃ a A n d c, e = .returned (.agg #[.int .u8 a, .slice A n d, .int .i64 c]) ∧ Below w.heap.size w w' ∧ GadIs x (.agg #[.int .u8 a, .slice A n d, .int .i64 c]) w'
end Go.Proofs.YtpojhomccmfffaaDoor
