/-
  Plain mathematics: what sums, products, quotients, whole parts of numbers with a fraction are.
-/
import Derived.Test.YtgmmdhefcijgeaaRound
import Derived.Laws.FloatArith
namespace Go.Proofs.Ytgmmdhefcijgeaa
open Go Ieee
set_option linter.unusedVariables false

/-- 1, in units of the least number. -/
def E0 : Nat := 1074
def one : Nat := 2 ^ E0
theorem E0_eq : E0 = 1074 := rfl
theorem one_pos : 0 < one := Nat.two_pow_pos E0
abbrev sg (x : Nat) : Bool := x / 9223372036854775808 % 2 == 1
abbrev rg (x : Nat) : Nat := x % 9223372036854775808
def fin (x : Nat) : Prop := rg x < 9218868437227405312
/-- What a word stands for, in units of the least number. -/
def kv (x : Nat) : Int := if sg x then -(rv (rg x) : Int) else (rv (rg x) : Int)
theorem kv_abs (x : Nat) : (kv x).natAbs = rv (rg x) := by
  unfold kv; split <;> simp
theorem near_parts (s : Bool) (m : Nat) (p : Int) : rg (Ieee.double.nearest s m p) = nr m p ∧ sg (Ieee.double.nearest s m p) = s ∧ Ieee.double.nearest s m p < 18446744073709551616 := by
  rw [nearest_word]
  have h := nr_le m p
  generalize nr m p = r at *
  unfold rg sg
  cases s
  · refine ⟨by simp; omega, ?_, by simp; omega⟩
    have : ((if false = true then 9223372036854775808 else 0) + r) / 9223372036854775808 = 0 := by simp; omega
    rw [this]; rfl
  · refine ⟨by simp; omega, ?_, by simp; omega⟩
    have : ((if true = true then 9223372036854775808 else 0) + r) / 9223372036854775808 = 1 := by simp; omega
    rw [this]; rfl
theorem signed_at (s : Bool) (r u : Nat) (hu : u ≤ pl r) : signed s (mg r) (pl r - u) * ((2 ^ u : Nat) : Int) = (if s then -(rv r : Int) else (rv r : Int)) := by
  unfold signed rv
  rw [Nat.shiftLeft_eq]
  have e : mg r * 2 ^ (pl r - u) * 2 ^ u = mg r * 2 ^ pl r := by rw [Nat.mul_assoc, ← Nat.pow_add, show pl r - u + u = pl r by omega]
  cases s
  · simp only [Bool.false_eq_true, if_false]
    rw [← Int.natCast_mul, e]
  · simp only [if_true]
    rw [Int.neg_mul, ← Int.natCast_mul, e]
theorem compare_mul' (a b : Int) (v : Nat) : compare (a * ((2 ^ v : Nat) : Int)) (b * ((2 ^ v : Nat) : Int)) = compare a b := by
  have hp : (0 : Int) < ((2 ^ v : Nat) : Int) := by exact_mod_cast Nat.two_pow_pos v
  rcases Int.lt_trichotomy a b with h | h | h
  · rw [Int.compare_eq_lt.2 h, Int.compare_eq_lt.2 (Int.mul_lt_mul_of_pos_right h hp)]
  · rw [h]
    rw [Int.compare_eq_eq.2 rfl, Int.compare_eq_eq.2 rfl]
  · rw [Int.compare_eq_gt.2 h, Int.compare_eq_gt.2 (Int.mul_lt_mul_of_pos_right h hp)]
/-- How two numbers stand to each other. -/
theorem od_fin {x y : Nat} (hx : fin x) (hy : fin y) : od x y = some (compare (kv x) (kv y)) := by
  show (Ieee.double.read x).order (Ieee.double.read y) = _
  rw [read_finite x hx, read_finite y hy]
  simp only [Datum.order, Option.some.injEq]
  unfold kv
  rw [← signed_at (sg x) (rg x) (min (pl (rg x)) (pl (rg y))) (by omega), ← signed_at (sg y) (rg y) (min (pl (rg x)) (pl (rg y))) (by omega), compare_mul']
  unfold sg rg
  generalize x % 9223372036854775808 = r
  generalize y % 9223372036854775808 = s
  have u1 : (((-1074 : Int) + (pl r : Nat)) - min ((-1074 : Int) + (pl r : Nat)) ((-1074 : Int) + (pl s : Nat))).toNat = pl r - min (pl r) (pl s) := by omega
  have u2 : (((-1074 : Int) + (pl s : Nat)) - min ((-1074 : Int) + (pl r : Nat)) ((-1074 : Int) + (pl s : Nat))).toNat = pl s - min (pl r) (pl s) := by omega
  rw [u1, u2]
theorem nan_fin {x : Nat} (hx : fin x) : isNan x = false := by
  unfold isNan; rw [od_fin hx hx, Int.compare_eq_eq.2 rfl]; rfl
/-- z is N, rounded. -/
structure Sum (z : Nat) (N : Int) (s : Bool) : Prop where
  rounds : Rounds (rg z) N.natAbs 1
  neg : N < 0 → sg z = true
  pos : 0 < N → sg z = false
  zero : N = 0 → sg z = s
  small : z < 18446744073709551616
theorem sum_fin (sx sy : Bool) (r s : Nat) : ∃ z, (Datum.sum (.number sx (mg r) ((-1074 : Int) + (pl r : Nat))) (.number sy (mg s) ((-1074 : Int) + (pl s : Nat)))).map Ieee.double.write = some z ∧
    Sum z ((if sx then -(rv r : Int) else (rv r : Int)) + (if sy then -(rv s : Int) else (rv s : Int))) (sx && sy) := by
  simp only [Datum.sum, Option.map_some, Format.write]
  refine ⟨_, rfl, ?_⟩
  have u1 : (((-1074 : Int) + (pl r : Nat)) - min ((-1074 : Int) + (pl r : Nat)) ((-1074 : Int) + (pl s : Nat))).toNat = pl r - min (pl r) (pl s) := by omega
  have u2 : (((-1074 : Int) + (pl s : Nat)) - min ((-1074 : Int) + (pl r : Nat)) ((-1074 : Int) + (pl s : Nat))).toNat = pl s - min (pl r) (pl s) := by omega
  rw [u1, u2, show min ((-1074 : Int) + (pl r : Nat)) ((-1074 : Int) + (pl s : Nat)) = (-1074 : Int) + ((min (pl r) (pl s) : Nat) : Int) by omega]
  rw [← signed_at sx r (min (pl r) (pl s)) (by omega), ← signed_at sy s (min (pl r) (pl s)) (by omega), ← Int.add_mul]
  generalize signed sx (mg r) (pl r - min (pl r) (pl s)) + signed sy (mg s) (pl s - min (pl r) (pl s)) = t
  generalize min (pl r) (pl s) = u
  obtain ⟨h1, h2, h3⟩ := near_parts (if t = 0 then sx && sy else decide (t < 0)) t.natAbs ((-1074 : Int) + (u : Int))
  have hp : (0 : Int) < ((2 ^ u : Nat) : Int) := by exact_mod_cast Nat.two_pow_pos u
  refine ⟨?_, fun h => ?_, fun h => ?_, fun h => ?_, h3⟩
  · rw [h1]
    refine rounds_nr (by decide) ?_
    rw [show ((-1074 : Int) + (u : Int) + 1074).toNat = u by omega, show (-((-1074 : Int) + (u : Int) + 1074)).toNat = 0 by omega, Int.natAbs_mul, Int.natAbs_natCast]
  · rw [h2]
    have : t < 0 := by
      apply Int.lt_of_not_ge
      intro hge
      have := Int.mul_nonneg hge (Int.le_of_lt hp)
      omega
    rw [if_neg (by omega)]
    simpa using this
  · rw [h2]
    have : 0 < t := by
      apply Int.lt_of_not_ge
      intro hge
      have := Int.mul_nonpos_of_nonpos_of_nonneg hge (Int.le_of_lt hp)
      omega
    rw [if_neg (by omega)]
    simp
    omega
  · rw [h2]
    have : t = 0 := by
      rcases Int.mul_eq_zero.1 h with h | h
      · exact h
      · omega
    rw [if_pos this]
abbrev addF (x y : Nat) : Option Nat := FloatKind.f64.format.add x y
abbrev mulF (x y : Nat) : Option Nat := FloatKind.f64.format.mul x y
abbrev quoF (x y : Nat) : Option Nat := FloatKind.f64.format.div x y
theorem add_fin {x y : Nat} (hx : fin x) (hy : fin y) : ∃ z, addF x y = some z ∧ Sum z (kv x + kv y) (sg x && sg y) := by
  have h := sum_fin (sg x) (sg y) (rg x) (rg y)
  show ∃ z, ((Ieee.double.read x).sum (Ieee.double.read y)).map Ieee.double.write = some z ∧ _
  rw [read_finite x hx, read_finite y hy]
  exact h
theorem sub_fin {x y : Nat} (hx : fin x) (hy : fin y) : ∃ z, subF x y = some z ∧ Sum z (kv x - kv y) (sg x && !sg y) := by
  have h := sum_fin (sg x) (!sg y) (rg x) (rg y)
  show ∃ z, ((Ieee.double.read x).sum (Ieee.double.read y).opposite).map Ieee.double.write = some z ∧ _
  rw [read_finite x hx, read_finite y hy]
  have e : (if (!sg y) = true then -(rv (rg y) : Int) else (rv (rg y) : Int)) = -kv y := by
    unfold kv; cases sg y <;> simp
  rw [e] at h
  exact h
theorem mul_fin {x y : Nat} (hx : fin x) (hy : fin y) : ∃ z, mulF x y = some z ∧ Rounds (rg z) (rv (rg x) * rv (rg y)) one ∧ sg z = (sg x ^^ sg y) ∧ z < 18446744073709551616 := by
  show ∃ z, ((Ieee.double.read x).product (Ieee.double.read y)).map Ieee.double.write = some z ∧ _
  rw [read_finite x hx, read_finite y hy]
  simp only [Datum.product, Option.map_some, Format.write]
  refine ⟨_, rfl, ?_⟩
  obtain ⟨h1, h2, h3⟩ := near_parts (sg x ^^ sg y) (mg (rg x) * mg (rg y)) (((-1074 : Int) + (pl (rg x) : Nat)) + ((-1074 : Int) + (pl (rg y) : Nat)))
  refine ⟨?_, h2, h3⟩
  rw [h1]
  refine rounds_nr one_pos ?_
  unfold rv one
  generalize mg (rg x) = m
  generalize mg (rg y) = n
  generalize pl (rg x) = a
  generalize pl (rg y) = b
  have e : 2 ^ (((-1074 : Int) + (a : Int)) + ((-1074 : Int) + (b : Int)) + 1074).toNat * 2 ^ E0 = 2 ^ a * 2 ^ b * 2 ^ (-(((-1074 : Int) + (a : Int)) + ((-1074 : Int) + (b : Int)) + 1074)).toNat := by
    rw [← Nat.pow_add, ← Nat.pow_add, ← Nat.pow_add]
    congr 1
    have := E0_eq
    omega
  rw [Nat.mul_assoc, e]
  simp only [Nat.mul_assoc, Nat.mul_left_comm]
/-- A whole number as a number with a fraction. -/
theorem int_fin (n : Int) : ∃ z, FloatKind.f64.nearest n = z ∧ Sum z (n * (one : Int)) false := by
  refine ⟨_, rfl, ?_⟩
  show Sum (Ieee.double.nearest (decide (n < 0)) n.natAbs 0) _ _
  obtain ⟨h1, h2, h3⟩ := near_parts (decide (n < 0)) n.natAbs 0
  have hp : (0 : Int) < (one : Int) := by exact_mod_cast one_pos
  refine ⟨?_, fun h => ?_, fun h => ?_, fun h => ?_, h3⟩
  · rw [h1]
    refine rounds_nr (by decide) ?_
    rw [Int.natAbs_mul, Int.natAbs_natCast]
    unfold one
    rw [show ((0 : Int) + 1074).toNat = E0 from rfl, show (-((0 : Int) + 1074)).toNat = 0 by decide]
  · rw [h2]
    have : n < 0 := by
      apply Int.lt_of_not_ge
      intro hge
      have := Int.mul_nonneg hge (Int.le_of_lt hp)
      omega
    simpa using this
  · rw [h2]
    have : 0 < n := by
      apply Int.lt_of_not_ge
      intro hge
      have := Int.mul_nonpos_of_nonpos_of_nonneg hge (Int.le_of_lt hp)
      omega
    simp; omega
  · rw [h2]
    rcases Int.mul_eq_zero.1 h with h | h
    · simp [h]
    · omega
/-- What is told exactly. -/
theorem Sum.is {z : Nat} {N : Int} {s : Bool} (h : Sum z N s) {r : Nat} (hr : r < 9218868437227405312) (e : N.natAbs = rv r) : fin z ∧ kv z = N ∧ rg z = r := by
  have h1 := h.rounds.exact (Nat.le_of_lt hr) (by rw [Nat.mul_one]; exact e)
  refine ⟨by unfold fin; rw [h1]; exact hr, ?_, h1⟩
  unfold kv
  rw [h1, ← e]
  rcases Int.lt_trichotomy N 0 with hn | hn | hn
  · rw [h.neg hn]; simp; omega
  · subst hn; simp
  · rw [h.pos hn]; simp; omega
end Go.Proofs.Ytgmmdhefcijgeaa
