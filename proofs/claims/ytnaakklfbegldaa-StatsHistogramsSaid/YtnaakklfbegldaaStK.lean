/-
  Plain mathematics: all numbers stand in one row, each by its key.
-/
import Derived.Test.YtnaakklfbegldaaStO
namespace Go.Proofs.Ytnaakklfbegldaa
open Go Ieee
set_option linter.unusedVariables false

def E2 : Nat := 2200
def bigN : Nat := 2 ^ E2
/-- Beyond all numbers. -/
def big : Int := (bigN : Int)
/-- Where a number stands: a whole number; beyond all for the infinities. -/
def key (x : Nat) : Int := match Ieee.double.read x with
  | .number s m i => signed s m (i + 1074).toNat
  | .infinity s => if s then -big else big
  | .nan _ _ => 0
theorem key_fin (x : Nat) (h : x % 9223372036854775808 < 9218868437227405312) : key x = signed (x / 9223372036854775808 % 2 == 1) (mg (x % 9223372036854775808)) (pl (x % 9223372036854775808)) := by
  unfold key
  rw [read_finite x h]
  show signed _ _ _ = _
  congr 1
  omega
theorem key_inf (x : Nat) (h : x % 9223372036854775808 = 9218868437227405312) : key x = if (x / 9223372036854775808 % 2 == 1) then -big else big := by
  unfold key
  rw [read_inf x h]
theorem key_small (x : Nat) (h : x % 9223372036854775808 < 9218868437227405312) : -big < key x ∧ key x < big := by
  rw [key_fin x h]
  generalize x % 9223372036854775808 = r at *
  have hm : mg r < 2 ^ 53 := by unfold mg; split <;> omega
  have hp : pl r ≤ 2046 := by unfold pl; omega
  have h1 : mg r * 2 ^ pl r < bigN := by
    have h3 : mg r * 2 ^ pl r < 2 ^ 53 * 2 ^ pl r := Nat.mul_lt_mul_of_pos_right hm (Nat.two_pow_pos _)
    rw [← Nat.pow_add] at h3
    have h4 : 2 ^ (53 + pl r) ≤ 2 ^ E2 := Nat.pow_le_pow_right (by decide) (by unfold E2; omega)
    exact Nat.lt_of_lt_of_le h3 h4
  unfold signed
  rw [Nat.shiftLeft_eq]
  generalize mg r * 2 ^ pl r = q at *
  have h2 : ((q : Nat) : Int) < big := Int.ofNat_lt.2 h1
  generalize big = B at *
  split <;> omega
theorem signed_up (s : Bool) (m u v : Nat) : signed s m (u + v) = signed s m u * ((2 ^ v : Nat) : Int) := by
  unfold signed
  rw [Nat.shiftLeft_eq, Nat.shiftLeft_eq, Nat.pow_add, ← Nat.mul_assoc]
  split
  · rw [Int.neg_mul, ← Int.natCast_mul]
  · rw [← Int.natCast_mul]
theorem compare_mul (a b : Int) (v : Nat) : compare (a * ((2 ^ v : Nat) : Int)) (b * ((2 ^ v : Nat) : Int)) = compare a b := by
  have hp : (0 : Int) < ((2 ^ v : Nat) : Int) := by exact_mod_cast Nat.two_pow_pos v
  rcases Int.lt_trichotomy a b with h | h | h
  · rw [Int.compare_eq_lt.2 h, Int.compare_eq_lt.2 (Int.mul_lt_mul_of_pos_right h hp)]
  · rw [h]
    rw [Int.compare_eq_eq.2 rfl, Int.compare_eq_eq.2 rfl]
  · rw [Int.compare_eq_gt.2 h, Int.compare_eq_gt.2 (Int.mul_lt_mul_of_pos_right h hp)]
theorem not_nan {x : Nat} (h : isNan x = false) : x % 9223372036854775808 ≤ 9218868437227405312 := by
  apply Nat.le_of_not_lt
  intro hlt
  obtain ⟨s, t, e⟩ := read_nan x hlt
  rw [isNan_read, e] at h
  cases h
theorem od_key {x y : Nat} (hx : isNan x = false) (hy : isNan y = false) : od x y = some (compare (key x) (key y)) := by
  show (Ieee.double.read x).order (Ieee.double.read y) = _
  rcases Nat.lt_or_eq_of_le (not_nan hx) with h1 | h1
  · rcases Nat.lt_or_eq_of_le (not_nan hy) with h2 | h2
    · rw [key_fin x h1, key_fin y h2, read_finite x h1, read_finite y h2]
      generalize x % 9223372036854775808 = r at *
      generalize y % 9223372036854775808 = s at *
      simp only [Datum.order, Option.some.injEq]
      have u1 : (((-1074 : Int) + (pl r : Nat)) - min ((-1074 : Int) + (pl r : Nat)) ((-1074 : Int) + (pl s : Nat))).toNat = pl r - min (pl r) (pl s) := by omega
      have u2 : (((-1074 : Int) + (pl s : Nat)) - min ((-1074 : Int) + (pl r : Nat)) ((-1074 : Int) + (pl s : Nat))).toNat = pl s - min (pl r) (pl s) := by omega
      rw [u1, u2]
      rw [← compare_mul _ _ (min (pl r) (pl s)), ← signed_up, ← signed_up]
      rw [show pl r - min (pl r) (pl s) + min (pl r) (pl s) = pl r by omega, show pl s - min (pl r) (pl s) + min (pl r) (pl s) = pl s by omega]
    · have hk := key_small x h1
      rw [key_inf y h2, read_finite x h1, read_inf y h2]
      generalize key x = k at *
      generalize big = B at *
      cases (y / 9223372036854775808 % 2 == 1) with
      | true =>
        show some Ordering.gt = some (compare k (-B))
        rw [Int.compare_eq_gt.2 (by omega)]
      | false =>
        show some Ordering.lt = some (compare k B)
        rw [Int.compare_eq_lt.2 (by omega)]
  · rcases Nat.lt_or_eq_of_le (not_nan hy) with h2 | h2
    · have hk := key_small y h2
      rw [key_inf x h1, read_finite y h2, read_inf x h1]
      generalize key y = k at *
      generalize big = B at *
      cases (x / 9223372036854775808 % 2 == 1) with
      | true =>
        show some Ordering.lt = some (compare (-B) k)
        rw [Int.compare_eq_lt.2 (by omega)]
      | false =>
        show some Ordering.gt = some (compare B k)
        rw [Int.compare_eq_gt.2 (by omega)]
    · have hB : (0 : Int) < big := Int.ofNat_lt.2 (Nat.two_pow_pos E2)
      rw [key_inf x h1, key_inf y h2, read_inf x h1, read_inf y h2]
      generalize big = B at *
      cases (x / 9223372036854775808 % 2 == 1) <;> cases (y / 9223372036854775808 % 2 == 1)
      · show some Ordering.eq = some (compare B B)
        rw [Int.compare_eq_eq.2 rfl]
      · show some Ordering.gt = some (compare B (-B))
        rw [Int.compare_eq_gt.2 (by omega)]
      · show some Ordering.lt = some (compare (-B) B)
        rw [Int.compare_eq_lt.2 (by omega)]
      · show some Ordering.eq = some (compare (-B) (-B))
        rw [Int.compare_eq_eq.2 rfl]
/-- Where a number stands, the noughts told apart. -/
def key2 (x : Nat) : Int := 2 * key x + (if sgn x then 0 else 1)
theorem ordF_key {x y : Nat} (hx : isNan x = false) (hy : isNan y = false) : decide (ordF x y < 0) = decide (key2 x < key2 y) := by
  unfold ordF key2
  rw [od_key hx hy]
  generalize key x = a at *
  generalize key y = b at *
  rcases Int.lt_trichotomy a b with h | h | h
  · rw [Int.compare_eq_lt.2 h]
    cases sgn x <;> cases sgn y <;> simp <;> omega
  · subst h
    rw [Int.compare_eq_eq.2 rfl]
    cases sgn x <;> cases sgn y <;> simp <;> omega
  · rw [Int.compare_eq_gt.2 h]
    cases sgn x <;> cases sgn y <;> simp <;> omega
end Go.Proofs.Ytnaakklfbegldaa
