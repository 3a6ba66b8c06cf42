/-
  Plain mathematics: how words of a format stand to each other.
-/
import Derived.Test.YtnaakklfbegldaaStF
namespace Go.Proofs.Ytnaakklfbegldaa
open Go Ieee
set_option linter.unusedVariables false

theorem fmt_double : FloatKind.f64.format = Ieee.double := rfl
/-- A word's magnitude: its digits, and by how many places they are moved. -/
def mg (r : Nat) : Nat := if r < 4503599627370496 then r else 4503599627370496 + r % 4503599627370496
def pl (r : Nat) : Nat := r / 4503599627370496 - 1
theorem read_finite (x : Nat) (h : x % 9223372036854775808 < 9218868437227405312) : Ieee.double.read x = .number (x / 9223372036854775808 % 2 == 1) (mg (x % 9223372036854775808)) ((-1074 : Int) + (pl (x % 9223372036854775808) : Nat)) := by
  unfold Format.read mg pl
  simp only [show Ieee.double.signWeight = 9223372036854775808 by decide, show Ieee.double.binade = 4503599627370496 by decide, show Ieee.double.infRung = 9218868437227405312 by decide, show Ieee.double.leastPlace = -1074 by decide]
  by_cases h1 : x % 9223372036854775808 < 4503599627370496
  · rw [if_pos h1, if_pos h1, show x % 9223372036854775808 / 4503599627370496 - 1 = 0 by omega]
    rfl
  · rw [if_neg h1, if_neg h1, if_pos h]
theorem read_inf (x : Nat) (h : x % 9223372036854775808 = 9218868437227405312) : Ieee.double.read x = .infinity (x / 9223372036854775808 % 2 == 1) := by
  unfold Format.read
  simp only [show Ieee.double.signWeight = 9223372036854775808 by decide, show Ieee.double.binade = 4503599627370496 by decide, show Ieee.double.infRung = 9218868437227405312 by decide]
  rw [if_neg (by omega), if_neg (by omega), if_pos h]
theorem read_nan (x : Nat) (h : 9218868437227405312 < x % 9223372036854775808) : ∃ s t, Ieee.double.read x = .nan s t := by
  unfold Format.read
  simp only [show Ieee.double.signWeight = 9223372036854775808 by decide, show Ieee.double.binade = 4503599627370496 by decide, show Ieee.double.infRung = 9218868437227405312 by decide]
  rw [if_neg (by omega), if_neg (by omega), if_neg (by omega)]
  exact ⟨_, _, rfl⟩
theorem mg_inj {r s : Nat} (h : mg r * 2 ^ (pl r - min (pl r) (pl s)) = mg s * 2 ^ (pl s - min (pl r) (pl s))) : r = s := by
  have key : ∀ r s : Nat, pl r ≤ pl s → mg r = mg s * 2 ^ (pl s - pl r) → r = s := by
    intro r s hle he
    have hr : mg r < 9007199254740992 := by unfold mg; split <;> omega
    by_cases hd : pl s = pl r
    · rw [hd, Nat.sub_self, Nat.pow_zero, Nat.mul_one] at he
      unfold mg at he
      unfold pl at hd
      split at he <;> split at he <;> omega
    · exfalso
      have hs : 4503599627370496 ≤ mg s := by
        unfold mg
        rw [if_neg (by unfold pl at hd hle; omega)]
        omega
      obtain ⟨d, hd'⟩ : ∃ d, pl s - pl r = d + 1 := ⟨pl s - pl r - 1, by omega⟩
      rw [hd', Nat.pow_succ] at he
      have : 1 ≤ 2 ^ d := Nat.one_le_two_pow
      have h2 : mg s * (2 ^ d * 2) = (mg s * 2) * 2 ^ d := by rw [Nat.mul_comm (2 ^ d) 2, ← Nat.mul_assoc]
      rw [h2] at he
      have h3 : mg s * 2 * 1 ≤ mg s * 2 * 2 ^ d := Nat.mul_le_mul_left _ this
      omega
  by_cases hle : pl r ≤ pl s
  · rw [Nat.min_eq_left hle, Nat.sub_self, Nat.pow_zero, Nat.mul_one] at h
    exact key r s hle h
  · rw [Nat.min_eq_right (by omega), Nat.sub_self, Nat.pow_zero, Nat.mul_one] at h
    exact (key s r (by omega) h.symm).symm
theorem mg_zero {r : Nat} (h : mg r = 0) : r = 0 := by
  unfold mg at h
  split at h <;> omega
theorem order_swap : ∀ d1 d2 : Datum, d1.order d2 = (d2.order d1).map Ordering.swap
  | .nan _ _, .nan _ _ => rfl
  | .nan _ _, .infinity _ => rfl
  | .nan _ _, .number _ _ _ => rfl
  | .infinity _, .nan _ _ => rfl
  | .number _ _ _, .nan _ _ => rfl
  | .infinity s, .infinity t => by cases s <;> cases t <;> rfl
  | .infinity s, .number _ _ _ => by cases s <;> rfl
  | .number _ _ _, .infinity s => by cases s <;> rfl
  | .number s m i, .number t n j => by
    simp only [Datum.order, Option.map_some, Option.some.injEq]
    rw [show min j i = min i j by omega]
    exact (Int.compare_swap _ _).symm
theorem order_some : ∀ d1 d2 : Datum, d1.isNaN = false → d2.isNaN = false → ∃ o, d1.order d2 = some o
  | .infinity s, .infinity t, _, _ => ⟨_, rfl⟩
  | .infinity s, .number _ _ _, _, _ => ⟨_, rfl⟩
  | .number _ _ _, .infinity s, _, _ => ⟨_, rfl⟩
  | .number s m i, .number t n j, _, _ => ⟨_, rfl⟩
theorem order_self : ∀ d : Datum, d.isNaN = false → d.order d = some .eq
  | .infinity s, _ => by cases s <;> rfl
  | .number s m i, _ => by
    simp only [Datum.order]
    congr 1
    exact Int.compare_eq_eq.2 rfl
theorem order_nan1 : ∀ d1 d2 : Datum, d1.isNaN = true → d1.order d2 = none
  | .nan _ _, .nan _ _, _ => rfl
  | .nan _ _, .infinity _, _ => rfl
  | .nan _ _, .number _ _ _, _ => rfl
theorem isNan_read (x : Nat) : isNan x = (Ieee.double.read x).isNaN := by
  show ((Ieee.double.read x).order (Ieee.double.read x) != some .eq) = _
  cases h : (Ieee.double.read x).isNaN with
  | true => rw [order_nan1 _ _ h]; rfl
  | false => rw [order_self _ h]; rfl
theorem od_swap (x y : Nat) : od x y = (od y x).map Ordering.swap := order_swap _ _
theorem od_some {x y : Nat} (h1 : isNan x = false) (h2 : isNan y = false) : ∃ o, od x y = some o := order_some _ _ ((isNan_read x).symm.trans h1) ((isNan_read y).symm.trans h2)
theorem od_nan1 {x y : Nat} (h : isNan x = true) : od x y = none := order_nan1 _ _ ((isNan_read x).symm.trans h)
theorem od_nan2 {x y : Nat} (h : isNan y = true) : od x y = none := by rw [od_swap, od_nan1 h]; rfl
theorem od_self {x : Nat} (h : isNan x = false) : od x x = some .eq := by
  unfold isNan at h
  simpa using h
theorem od_eq {x y : Nat} (hx : x < 18446744073709551616) (hy : y < 18446744073709551616) (h : od x y = some .eq) : x = y ∨ (x % 9223372036854775808 = 0 ∧ y % 9223372036854775808 = 0) := by
  have h' : (Ieee.double.read x).order (Ieee.double.read y) = some .eq := h
  rcases Nat.lt_trichotomy (x % 9223372036854775808) 9218868437227405312 with hx1 | hx1 | hx1
  · rcases Nat.lt_trichotomy (y % 9223372036854775808) 9218868437227405312 with hy1 | hy1 | hy1
    · rw [read_finite x hx1, read_finite y hy1] at h'
      simp only [Datum.order, Option.some.injEq] at h'
      have h2 := Int.compare_eq_eq.1 h'
      generalize hr : x % 9223372036854775808 = r at *
      generalize hs : y % 9223372036854775808 = s at *
      have u1 : (((-1074 : Int) + (pl r : Nat)) - min ((-1074 : Int) + (pl r : Nat)) ((-1074 : Int) + (pl s : Nat))).toNat = pl r - min (pl r) (pl s) := by omega
      have u2 : (((-1074 : Int) + (pl s : Nat)) - min ((-1074 : Int) + (pl r : Nat)) ((-1074 : Int) + (pl s : Nat))).toNat = pl s - min (pl r) (pl s) := by omega
      rw [u1, u2] at h2
      unfold signed at h2
      rw [Nat.shiftLeft_eq, Nat.shiftLeft_eq] at h2
      have key : ∀ a b : Nat, (a : Int) = (b : Int) → a = b := fun a b h => by omega
      have keyz : ∀ a b : Nat, -(a : Int) = (b : Int) → a = 0 ∧ b = 0 := fun a b h => by omega
      have zero : ∀ m k : Nat, m * 2 ^ k = 0 → m = 0 := fun m k h => by
        rcases Nat.mul_eq_zero.1 h with h | h
        · exact h
        · have := Nat.two_pow_pos k; omega
      by_cases s1 : x / 9223372036854775808 % 2 = 1
      · by_cases s2 : y / 9223372036854775808 % 2 = 1
        · rw [if_pos (by simpa using s1), if_pos (by simpa using s2)] at h2
          have := mg_inj (key _ _ (Int.neg_inj.1 h2))
          left; omega
        · rw [if_pos (by simpa using s1), if_neg (by simpa using s2)] at h2
          obtain ⟨z1, z2⟩ := keyz _ _ h2
          exact .inr ⟨mg_zero (zero _ _ z1), mg_zero (zero _ _ z2)⟩
      · by_cases s2 : y / 9223372036854775808 % 2 = 1
        · rw [if_neg (by simpa using s1), if_pos (by simpa using s2)] at h2
          obtain ⟨z1, z2⟩ := keyz _ _ h2.symm
          exact .inr ⟨mg_zero (zero _ _ z2), mg_zero (zero _ _ z1)⟩
        · rw [if_neg (by simpa using s1), if_neg (by simpa using s2)] at h2
          have := mg_inj (key _ _ h2)
          left; omega
    · rw [read_finite x hx1, read_inf y hy1] at h'
      simp only [Datum.order, Option.some.injEq] at h'
      split at h' <;> cases h'
    · obtain ⟨s, t, e⟩ := read_nan y hy1
      rw [read_finite x hx1, e] at h'
      cases h'
  · rcases Nat.lt_trichotomy (y % 9223372036854775808) 9218868437227405312 with hy1 | hy1 | hy1
    · rw [read_inf x hx1, read_finite y hy1] at h'
      simp only [Datum.order, Option.some.injEq] at h'
      split at h' <;> cases h'
    · rw [read_inf x hx1, read_inf y hy1] at h'
      simp only [Datum.order, Option.some.injEq] at h'
      have h2 := Nat.compare_eq_eq.1 h'
      left
      by_cases s1 : x / 9223372036854775808 % 2 = 1
      · by_cases s2 : y / 9223372036854775808 % 2 = 1
        · omega
        · rw [show (x / 9223372036854775808 % 2 == 1) = true by simpa using s1, show (y / 9223372036854775808 % 2 == 1) = false by simpa using s2] at h2
          exact absurd h2 (by decide)
      · by_cases s2 : y / 9223372036854775808 % 2 = 1
        · rw [show (x / 9223372036854775808 % 2 == 1) = false by simpa using s1, show (y / 9223372036854775808 % 2 == 1) = true by simpa using s2] at h2
          exact absurd h2 (by decide)
        · omega
    · obtain ⟨s, t, e⟩ := read_nan y hy1
      rw [read_inf x hx1, e] at h'
      cases h'
  · obtain ⟨s, t, e⟩ := read_nan x hx1
    rw [e] at h'
    rw [order_nan1 _ _ rfl] at h'
    cases h'
theorem nan_const : isNan 9221120237041090561 = true := by decide +kernel
theorem nan_zero : isNan 0 = false := by decide +kernel
theorem unsig_zero1 : od 0 0 = some .eq := by decide +kernel
theorem unsig_zero2 : od 9223372036854775808 0 = some .eq := by decide +kernel
theorem nan_neg : isNan 9223372036854775808 = false := by decide +kernel
theorem unsig_self {x : Nat} (hx : x < 18446744073709551616) (h : isNan x = false) : unsig x = (if x = 9223372036854775808 then 0 else x) := by
  unfold unsig
  cases h0 : (od x 0 == some .eq) with
  | true =>
    rcases od_eq (y := 0) hx (by decide) (by simpa using h0) with h1 | h1
    · subst h1; rfl
    · have : x = 0 ∨ x = 9223372036854775808 := by omega
      rcases this with rfl | rfl <;> rfl
  | false =>
    rw [if_neg (by simp), if_neg]
    intro e
    subst e
    rw [unsig_zero2] at h0
    cases h0
/-- The same numbers, and they alone, have the same bits. -/
theorem bits_same {x y : Nat} (hx : x < 18446744073709551616) (hy : y < 18446744073709551616) : (bitsF x == bitsF y) = sameF x y := by
  unfold bitsF sameF
  cases hnx : isNan x with
  | true =>
    rw [od_nan1 hnx]
    cases hny : isNan y with
    | true => simp
    | false =>
      have hne : unsig y ≠ 9221120237041090561 := by
        rw [unsig_self hy hny]
        split
        · decide
        · intro e
          rw [e, nan_const] at hny
          cases hny
      have : (9221120237041090561 == unsig y) = false := by simpa using Ne.symm hne
      simpa using this
  | false =>
    cases hny : isNan y with
    | true =>
      rw [od_nan2 hny]
      have hne : unsig x ≠ 9221120237041090561 := by
        rw [unsig_self hx hnx]
        split
        · decide
        · intro e
          rw [e, nan_const] at hnx
          cases hnx
      have : (unsig x == 9221120237041090561) = false := by simpa using hne
      simpa using this
    | false =>
      simp only [Bool.and_false, Bool.or_false, Bool.false_eq_true, if_false]
      rw [unsig_self hx hnx, unsig_self hy hny]
      cases h : (od x y == some .eq) with
      | true =>
        rcases od_eq hx hy (by simpa using h) with h1 | h1
        · subst h1; simp
        · have h2 : x = 0 ∨ x = 9223372036854775808 := by omega
          have h3 : y = 0 ∨ y = 9223372036854775808 := by omega
          rcases h2 with rfl | rfl <;> rcases h3 with rfl | rfl <;> rfl
      | false =>
        have hxy : x ≠ y := fun e => by
          subst e
          rw [od_self hnx] at h
          cases h
        have hz : ¬ (x = 0 ∧ y = 9223372036854775808) := fun ⟨e1, e2⟩ => by
          subst e1 e2
          exact absurd h (by decide +kernel)
        have hz2 : ¬ (x = 9223372036854775808 ∧ y = 0) := fun ⟨e1, e2⟩ => by
          subst e1 e2
          exact absurd h (by decide +kernel)
        rw [beq_eq_false_iff_ne]
        split <;> split <;> omega
/-- The other way round it is the other way round. -/
theorem cmp_swap (x y : Nat) : cmpF y x = -cmpF x y := by
  unfold cmpF sameF
  cases hnx : isNan x with
  | true =>
    cases hny : isNan y with
    | true => simp
    | false => rw [od_nan1 hnx, od_nan2 hnx]; simp
  | false =>
    cases hny : isNan y with
    | true => rw [od_nan2 hny, od_nan1 hny]; simp
    | false =>
      obtain ⟨o, ho⟩ := od_some hnx hny
      rw [od_swap y x, ho]
      cases o <;> rfl
end Go.Proofs.Ytnaakklfbegldaa
