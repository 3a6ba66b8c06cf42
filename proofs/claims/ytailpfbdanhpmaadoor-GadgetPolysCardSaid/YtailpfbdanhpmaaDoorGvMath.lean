/-
  Mathematics of a gadget's value: a polynomial's value from either end; sums of pairs' products.
-/
import Derived.Test.YtailpfbdanhpmaaDoorPolyAt
import Derived.Test.YtailpfbdanhpmaaDoorPoX
namespace Go.Proofs.YtailpfbdanhpmaaDoor
open F Flow Go.RowKit
set_option linter.unusedVariables false

/-- What so many pairs make, each multiplied, summed. -/
def prs (mul add : Int → Int → Int) (xs : List Int) : Nat → Int
  | 0 => 0
  | k + 1 => add (prs mul add xs k) (mul (xs.getD (k * 2) 0) (xs.getD (k * 2 + 1) 0))
theorem prs_ok (f : Int) (xs : List Int) : ∀ k, 0 ≤ prs (mul f) (add f) xs k ∧ prs (mul f) (add f) xs k < 340282366920938463463374607431768211456
  | 0 => by simp [prs]
  | k + 1 => by
    have := add_bound f (prs (mul f) (add f) xs k) (mul f (xs.getD (k * 2) 0) (xs.getD (k * 2 + 1) 0))
    have := M_lt f
    rw [prs]
    omega
/-- The law's numbers: so many, over and over again. -/
def gin (f : Int) (ls : List Int) (n : Nat) : List Int := (List.range n).map fun i => redu f (ls.getD (i % ls.length) 0)
theorem gin_length (f : Int) (ls : List Int) (n : Nat) : (gin f ls n).length = n := by simp [gin]
theorem gin_at (f : Int) (ls : List Int) {n k : Nat} (h : k < n) : (gin f ls n).getD k 0 = redu f (ls.getD (k % ls.length) 0) := by simp [gin, h]
theorem gin_in (f : Int) (ls : List Int) (n : Nat) : InF f (gin f ls n) := fun k hk => by
  rw [gin_length] at hk
  rw [gin_at f ls hk]
  exact ⟨redu_nonneg _ _, redu_lt _ _⟩
/-- The law's coefficients, before the last is made to be something. -/
def gcs (f : Int) (cs : List Int) (n : Nat) : List Int := (List.range n).map fun i => redu f (cs.getD i 0)
theorem gcs_length (f : Int) (cs : List Int) (n : Nat) : (gcs f cs n).length = n := by simp [gcs]
theorem gcs_at (f : Int) (cs : List Int) {n k : Nat} (h : k < n) : (gcs f cs n).getD k 0 = redu f (cs.getD k 0) := by simp [gcs, h]
theorem gcs_succ (f : Int) (cs : List Int) (n : Nat) : gcs f cs (n + 1) = gcs f cs n ++ [redu f (cs.getD n 0)] := by simp [gcs, List.range_succ]
theorem gcs_in (f : Int) (cs : List Int) (n : Nat) : InF f (gcs f cs n) := fun k hk => by
  rw [gcs_length] at hk
  rw [gcs_at f cs hk]
  exact ⟨redu_nonneg _ _, redu_lt _ _⟩
theorem gset_in {f : Int} {p : List Int} (h : InF f p) (j : Nat) : InF f (p.set j 1) := fun k hk => by
  rw [List.length_set] at hk
  have hM : 1 < M f := by unfold M; split <;> omega
  by_cases e : j = k
  · subst e; simp [hk]; omega
  · have := h k hk
    simpa [List.getElem?_set, e] using this
end Go.Proofs.YtailpfbdanhpmaaDoor
