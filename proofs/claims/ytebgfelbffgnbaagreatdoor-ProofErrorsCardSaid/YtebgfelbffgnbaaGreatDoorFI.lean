import Derived.Test.YtebgfelbffgnbaaGreatDoorBA
import Derived.Test.YtebgfelbffgnbaaGreatDoorDJ
/-
  Sums, differences and products of a field's numbers, as rests.
-/
namespace Go.Proofs.YtebgfelbffgnbaaGreatDoor
open F
set_option linter.unusedVariables false

theorem in_em {f x : Int} (h : 0 ≤ x ∧ x < M f) : x % M f = x := Int.emod_eq_of_lt h.1 h.2
theorem mul_in {f a b : Int} (ha : 0 ≤ a ∧ a < M f) (hb : 0 ≤ b ∧ b < M f) : mul f a b = (a * b) % M f := by unfold mul; rw [redu_of_lt ha.1 ha.2, redu_of_lt hb.1 hb.2]
theorem in_one (f : Int) : (0 : Int) ≤ 1 ∧ 1 < M f := by unfold M; split <;> omega
theorem in_zero (f : Int) : (0 : Int) ≤ 0 ∧ 0 < M f := by unfold M; split <;> omega
end Go.Proofs.YtebgfelbffgnbaaGreatDoor

/-
  What a circuit says of a vector, as a sum over its elements: mathematics.
-/
namespace Go.Proofs.YtebgfelbffgnbaaGreatDoor
open Go.RowKit Flow F
set_option linter.unusedVariables false

/-- A sum of numbers. -/
def sumZ (T : Nat → Int) : Nat → Int
  | 0 => 0
  | n + 1 => sumZ T n + T n
theorem getD_in' {f : Int} {xs : List Int} (h : InF f xs) (k : Nat) : 0 ≤ xs.getD k 0 ∧ xs.getD k 0 < M f := by
  by_cases hk : k < xs.length
  · exact h.at_ hk
  · rw [List.getD_eq_getElem?_getD, List.getElem?_eq_none (by omega)]
    exact in_zero f
/-- What element number i adds to what is said, by chunks of C. -/
def dT (f : Int) (C : Nat) (vs js : List Int) (i : Nat) : Int := pwr f (js.getD (i / C) 0) (i % C) * (vs.getD i 0 * (vs.getD i 0 - 1))
def dS (f : Int) (C : Nat) (vs js : List Int) (n : Nat) : Int := sumZ (dT f C vs js) n % M f
/-- What a vector is said to be, without any asking. -/
def Ci.sizeN (x : Ci) : Nat := if x.k = 2 then x.b.toNat else x.c.toNat
def restV (x : Ci) (vs : List Int) : Int := if x.k = 4 then sub x.f (sumF x.f (vs.take x.l.toNat)) 1 else sub x.f (add x.f (sumF x.f (vs.take x.l.toNat)) (offN x.w.toNat : Int)) (numF x.f (vs.drop x.l.toNat))
def dirV (x : Ci) (vs js : List Int) : Int :=
  if x.k = 1 then sub x.f (mul x.f (vs.getD 0 0) (vs.getD 0 0)) (vs.getD 0 0)
  else if x.k < 4 then dS x.f x.sizeN vs js vs.length
  else add x.f (dS x.f x.sizeN vs js vs.length) (mul x.f (js.getD (x.jointN - 1) 0) (restV x vs))
end Go.Proofs.YtebgfelbffgnbaaGreatDoor
