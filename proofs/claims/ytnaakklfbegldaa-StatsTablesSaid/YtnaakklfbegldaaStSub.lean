/-
  Plain mathematics: what lies between two numbers with a fraction is as much the other way round.
-/
import Derived.Test.YtnaakklfbegldaaStMath
import Derived.Laws.FloatBits
namespace Go.Proofs.Ytnaakklfbegldaa
open Go Ieee
set_option linter.unusedVariables false

abbrev subF (x y : Nat) : Option Nat := FloatKind.f64.format.sub x y
theorem word_mod (s : Bool) (r : Nat) (h : r ≤ 9218868437227405312) : Ieee.double.word s r % 9223372036854775808 = r := by
  unfold Format.word
  rw [show Ieee.double.signWeight = 9223372036854775808 by decide]
  split <;> omega
theorem nearest_mod (s t : Bool) (m : Nat) (p : Int) : Ieee.double.nearest s m p % 9223372036854775808 = Ieee.double.nearest t m p % 9223372036854775808 := by
  unfold Format.nearest
  dsimp only
  by_cases h : m = 0
  · rw [if_pos h, if_pos h, word_mod _ _ (by decide), word_mod _ _ (by decide)]
  · rw [if_neg h, if_neg h]
    rw [show Ieee.double.infRung = 9218868437227405312 by decide]
    rw [word_mod _ _ (Nat.min_le_right _ _), word_mod _ _ (Nat.min_le_right _ _)]
    rfl
/-- Two data that differ in the sign at most. -/
def Alike : Option Datum → Option Datum → Prop
  | none, none => True
  | some d, some e => Ieee.double.write d % 9223372036854775808 = Ieee.double.write e % 9223372036854775808
  | _, _ => False
theorem signed_not (s : Bool) (m u : Nat) : signed (!s) m u = -signed s m u := by
  unfold signed
  cases s <;> simp
theorem sum_alike : ∀ d e : Datum, Alike (d.sum e.opposite) (e.sum d.opposite)
  | .nan _ _, .nan _ _ => trivial
  | .nan _ _, .infinity _ => trivial
  | .nan _ _, .number _ _ _ => trivial
  | .infinity _, .nan _ _ => trivial
  | .number _ _ _, .nan _ _ => trivial
  | .infinity s, .infinity t => by cases s <;> cases t <;> first | trivial | exact (by decide +kernel)
  | .infinity s, .number t n j => by
    show Ieee.double.write (.infinity s) % _ = Ieee.double.write (.infinity (!s)) % _
    cases s <;> decide +kernel
  | .number s m i, .infinity t => by
    show Ieee.double.write (.infinity (!t)) % _ = Ieee.double.write (.infinity t) % _
    cases t <;> decide +kernel
  | .number s m i, .number t n j => by
    simp only [Datum.sum, Datum.opposite, Alike, Format.write]
    rw [show min j i = min i j by omega, signed_not, signed_not]
    rw [show signed t n (j - min i j).toNat + -signed s m (i - min i j).toNat = -(signed s m (i - min i j).toNat + -signed t n (j - min i j).toNat) by omega]
    rw [Int.natAbs_neg]
    exact nearest_mod _ _ _ _
theorem sub_alike (x y : Nat) : (subF x y = none ∧ subF y x = none) ∨ ∃ r s, subF x y = some r ∧ subF y x = some s ∧ r % 9223372036854775808 = s % 9223372036854775808 := by
  have h := sum_alike (Ieee.double.read x) (Ieee.double.read y)
  show (((Ieee.double.read x).sum (Ieee.double.read y).opposite).map Ieee.double.write = none ∧ ((Ieee.double.read y).sum (Ieee.double.read x).opposite).map Ieee.double.write = none) ∨ ∃ r s, ((Ieee.double.read x).sum (Ieee.double.read y).opposite).map Ieee.double.write = some r ∧ ((Ieee.double.read y).sum (Ieee.double.read x).opposite).map Ieee.double.write = some s ∧ _
  generalize (Ieee.double.read x).sum (Ieee.double.read y).opposite = d at *
  generalize (Ieee.double.read y).sum (Ieee.double.read x).opposite = e at *
  cases d with
  | none =>
    cases e with
    | none => exact .inl ⟨rfl, rfl⟩
    | some e => exact absurd h (by simp [Alike])
  | some d =>
    cases e with
    | none => exact absurd h (by simp [Alike])
    | some e => exact .inr ⟨_, _, rfl, rfl, h⟩
theorem sub_small {x y r : Nat} (h : subF x y = some r) : r < 18446744073709551616 := Format.sub_lt _ h
theorem od_mod (r k : Nat) (hr : r < 18446744073709551616) : (od r 0 = some .lt → 9223372036854775808 ≤ r) ∧ (od r 0 ≠ some .lt → od r k = od (r % 9223372036854775808) k) := by
  by_cases hs : r < 9223372036854775808
  · rw [Nat.mod_eq_of_lt hs]
    refine ⟨fun h => ?_, fun _ => rfl⟩
    exfalso
    have h' : (Ieee.double.read r).order (Ieee.double.read 0) = some .lt := h
    have z : Ieee.double.read 0 = .number false 0 (-1074) := by decide +kernel
    have e0 : (r / 9223372036854775808 % 2 == 1) = false := by
      rw [Nat.div_eq_of_lt hs]; rfl
    have em : r % 9223372036854775808 = r := Nat.mod_eq_of_lt hs
    rcases Nat.lt_trichotomy r 9218868437227405312 with h1 | h1 | h1
    · rw [read_finite r (by omega), z, e0] at h'
      simp only [Datum.order, Option.some.injEq] at h'
      have := Int.compare_eq_lt.1 h'
      unfold signed at this
      rw [if_neg Bool.false_ne_true, if_neg Bool.false_ne_true, Nat.zero_shiftLeft] at this
      generalize (mg _ <<< _ : Nat) = q at this
      omega
    · rw [read_inf r (by omega), z, e0] at h'
      cases h'
    · obtain ⟨s, t, e⟩ := read_nan r (by omega)
      rw [e, z] at h'
      cases h'
  · refine ⟨fun _ => by omega, fun h => ?_⟩
    have e1 : (r / 9223372036854775808 % 2 == 1) = true := by
      have : r / 9223372036854775808 = 1 := by omega
      rw [this]; rfl
    have z : Ieee.double.read 0 = .number false 0 (-1074) := by decide +kernel
    have h' : (Ieee.double.read r).order (Ieee.double.read 0) ≠ some .lt := h
    rcases Nat.lt_trichotomy (r % 9223372036854775808) 9218868437227405312 with h1 | h1 | h1
    · by_cases h0 : r % 9223372036854775808 = 0
      · rw [h0]
        obtain rfl : r = 9223372036854775808 := by omega
        show (Ieee.double.read 9223372036854775808).order (Ieee.double.read k) = (Ieee.double.read 0).order (Ieee.double.read k)
        rw [z, show Ieee.double.read 9223372036854775808 = .number true 0 (-1074) by decide +kernel]
        cases Ieee.double.read k with
        | nan _ _ => rfl
        | infinity _ => rfl
        | number t n j => simp [Datum.order, signed]
      · exfalso
        rw [read_finite r h1, z, e1] at h'
        apply h'
        simp only [Datum.order, Option.some.injEq]
        apply Int.compare_eq_lt.2
        unfold signed
        have : mg (r % 9223372036854775808) ≠ 0 := fun e => h0 (mg_zero e)
        rw [Nat.shiftLeft_eq]
        have h2 : 0 < mg (r % 9223372036854775808) * 2 ^ ((-1074 : Int) + (pl (r % 9223372036854775808) : Nat) - min ((-1074 : Int) + (pl (r % 9223372036854775808) : Nat)) (-1074)).toNat := Nat.mul_pos (by omega) (Nat.two_pow_pos _)
        generalize mg (r % 9223372036854775808) * 2 ^ ((-1074 : Int) + (pl (r % 9223372036854775808) : Nat) - min ((-1074 : Int) + (pl (r % 9223372036854775808) : Nat)) (-1074)).toNat = q at *
        simp
        omega
    · exfalso
      rw [read_inf r h1, z, e1] at h'
      exact h' rfl
    · obtain ⟨s, t, e⟩ := read_nan r h1
      obtain ⟨s2, t2, e2⟩ := read_nan (r % 9223372036854775808) (by omega)
      show (Ieee.double.read r).order (Ieee.double.read k) = (Ieee.double.read (r % 9223372036854775808)).order (Ieee.double.read k)
      rw [e, e2, order_nan1 _ _ rfl, order_nan1 _ _ rfl]
end Go.Proofs.Ytnaakklfbegldaa
