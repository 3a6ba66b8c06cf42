/-
  Values at roots: how halves make a whole, level by level.
-/
import Derived.Test.YtnlnbikiocdpdaaDoorNtF
namespace Go.Proofs.YtnlnbikiocdpdaaDoor
open F
set_option linter.unusedVariables false

/-- The values of every 2^(n - k)th coefficient from r on, at the powers of the root of order 2^k. -/
def Dk (f : Int) (n : Nat) (C P : Nat → Int) : Nat → Nat → Nat → Int
  | 0, r, _ => add f (C r) 0
  | k + 1, r, j => if j < 2 ^ k then add f (Dk f n C P k r j) (mul f (Dk f n C P k (r + 2 ^ (n - (k + 1))) j) (P (j * 2 ^ (n - (k + 1)))))
    else sub f (Dk f n C P k r (j - 2 ^ k)) (mul f (Dk f n C P k (r + 2 ^ (n - (k + 1))) (j - 2 ^ k)) (P ((j - 2 ^ k) * 2 ^ (n - (k + 1)))))
theorem Dk_ok (f : Int) (n : Nat) (C P : Nat → Int) (k r j : Nat) : 0 ≤ Dk f n C P k r j ∧ Dk f n C P k r j < M f := by
  cases k with
  | zero => exact add_bound f _ _
  | succ k =>
    rw [Dk]
    split
    · exact add_bound f _ _
    · exact sub_bound f _ _
/-- What a list holds when halves of 2^k were made. -/
def Lk (f : Int) (n : Nat) (C P : Nat → Int) (k p : Nat) : Int := Dk f n C P k (rho (n - k) (p / 2 ^ k)) (p % 2 ^ k)
theorem Lk_zero (f : Int) (n : Nat) (C P : Nat → Int) : Lk f n C P 0 = fun p => add f (C (rho n p)) 0 := by
  funext p
  unfold Lk
  rw [Dk, Nat.sub_zero, Nat.pow_zero, Nat.div_one]
theorem Lk_end (f : Int) (n : Nat) (C P : Nat → Int) {p : Nat} (h : p < 2 ^ n) : Lk f n C P n p = Dk f n C P n 0 p := by
  unfold Lk
  rw [Nat.sub_self, Nat.mod_eq_of_lt h, rho]
/-- So many blocks done. -/
def mixd (f : Int) (n : Nat) (C P : Nat → Int) (k b p : Nat) : Int := if p < b * 2 ^ (k + 1) then Lk f n C P (k + 1) p else Lk f n C P k p
theorem mixd_zero (f : Int) (n : Nat) (C P : Nat → Int) (k : Nat) : mixd f n C P k 0 = Lk f n C P k := by
  funext p
  unfold mixd
  rw [if_neg (by omega)]
theorem mixd_ok (f : Int) (n : Nat) (C P : Nat → Int) (k b p : Nat) : 0 ≤ mixd f n C P k b p ∧ mixd f n C P k b p < M f := by
  unfold mixd
  split
  · exact Dk_ok _ _ _ _ _ _ _
  · exact Dk_ok _ _ _ _ _ _ _
theorem div_mod_at {a i d : Nat} (hi : i < d) : (a * d + i) / d = a ∧ (a * d + i) % d = i := by
  constructor
  · rw [Nat.mul_comm, Nat.mul_add_div (by omega), Nat.div_eq_of_lt hi, Nat.add_zero]
  · rw [Nat.mul_comm, Nat.mul_add_mod, Nat.mod_eq_of_lt hi]
theorem rho_even (s b : Nat) : rho (s + 1) (2 * b) = rho s b := by
  rw [rho, show 2 * b / 2 = b by omega, show 2 * b % 2 = 0 by omega, Nat.zero_mul, Nat.add_zero]
theorem rho_odd (s b : Nat) : rho (s + 1) (2 * b + 1) = rho s b + 2 ^ s := by
  rw [rho, show (2 * b + 1) / 2 = b by omega, show (2 * b + 1) % 2 = 1 by omega, Nat.one_mul]
/-- One more block. -/
theorem mixd_step (f : Int) (n : Nat) (C P : Nat → Int) {k b : Nat} (hk : k < n) :
    jn (mul f) (add f) (sub f) (mixd f n C P k b) P (b * 2 ^ (k + 1)) (2 ^ k) (2 ^ (n - (k + 1))) (2 ^ k) = mixd f n C P k (b + 1) := by
  have hp : 2 ^ (k + 1) = 2 ^ k + 2 ^ k := by rw [Nat.pow_succ]; omega
  have hpos : 1 ≤ 2 ^ k := Nat.one_le_two_pow
  have hs : n - k = n - (k + 1) + 1 := by omega
  have hbs : (b + 1) * 2 ^ (k + 1) = b * 2 ^ (k + 1) + (2 ^ k + 2 ^ k) := by rw [Nat.succ_mul, hp]
  have hb2 : b * 2 ^ (k + 1) = 2 * b * 2 ^ k := by rw [Nat.pow_succ]; rw [Nat.mul_comm (2 ^ k), ← Nat.mul_assoc, Nat.mul_comm b]
  have hlow : ∀ i, i < 2 ^ k → Lk f n C P k (b * 2 ^ (k + 1) + i) = Dk f n C P k (rho (n - (k + 1)) b) i := fun i hi => by
    unfold Lk
    rw [hb2, (div_mod_at hi).1, (div_mod_at hi).2, hs, rho_even]
  have hup : ∀ i, i < 2 ^ k → Lk f n C P k (b * 2 ^ (k + 1) + 2 ^ k + i) = Dk f n C P k (rho (n - (k + 1)) b + 2 ^ (n - (k + 1))) i := fun i hi => by
    unfold Lk
    rw [hb2, show 2 * b * 2 ^ k + 2 ^ k + i = (2 * b + 1) * 2 ^ k + i by rw [Nat.add_mul, Nat.one_mul], (div_mod_at hi).1, (div_mod_at hi).2, hs, rho_odd]
  have hnew : ∀ i, i < 2 ^ (k + 1) → Lk f n C P (k + 1) (b * 2 ^ (k + 1) + i) = Dk f n C P (k + 1) (rho (n - (k + 1)) b) i := fun i hi => by
    unfold Lk
    rw [(div_mod_at hi).1, (div_mod_at hi).2]
  have hold : ∀ q, b * 2 ^ (k + 1) ≤ q → mixd f n C P k b q = Lk f n C P k q := fun q hq => by
    unfold mixd
    rw [if_neg (by omega)]
  funext p
  unfold jn
  by_cases h1 : b * 2 ^ (k + 1) ≤ p ∧ p < b * 2 ^ (k + 1) + 2 ^ k
  · rw [if_pos h1]
    obtain ⟨i, rfl⟩ : ∃ i, p = b * 2 ^ (k + 1) + i := ⟨p - b * 2 ^ (k + 1), by omega⟩
    have hi : i < 2 ^ k := by omega
    rw [hold _ (by omega), hold _ (by omega), hlow i hi, show b * 2 ^ (k + 1) + i + 2 ^ k = b * 2 ^ (k + 1) + 2 ^ k + i by omega, hup i hi, show b * 2 ^ (k + 1) + i - b * 2 ^ (k + 1) = i by omega]
    unfold mixd
    rw [if_pos (by omega), hnew i (by omega), Dk, if_pos hi]
  · rw [if_neg h1]
    by_cases h2 : b * 2 ^ (k + 1) + 2 ^ k ≤ p ∧ p < b * 2 ^ (k + 1) + 2 ^ k + 2 ^ k
    · rw [if_pos h2]
      obtain ⟨i, rfl⟩ : ∃ i, p = b * 2 ^ (k + 1) + 2 ^ k + i := ⟨p - (b * 2 ^ (k + 1) + 2 ^ k), by omega⟩
      have hi : i < 2 ^ k := by omega
      rw [hold _ (by omega), hold _ (by omega), hup i hi, show b * 2 ^ (k + 1) + 2 ^ k + i - 2 ^ k = b * 2 ^ (k + 1) + i by omega, hlow i hi, show b * 2 ^ (k + 1) + i - b * 2 ^ (k + 1) = i by omega]
      unfold mixd
      rw [if_pos (by omega), show b * 2 ^ (k + 1) + 2 ^ k + i = b * 2 ^ (k + 1) + (2 ^ k + i) by omega, hnew (2 ^ k + i) (by omega), Dk, if_neg (by omega), show 2 ^ k + i - 2 ^ k = i by omega]
    · rw [if_neg h2]
      unfold mixd
      by_cases h3 : p < b * 2 ^ (k + 1)
      · rw [if_pos h3, if_pos (by omega)]
      · rw [if_neg h3, if_neg (by omega)]
theorem mixd_end (f : Int) (n : Nat) (C P : Nat → Int) {k b p : Nat} (h : p < b * 2 ^ (k + 1)) : mixd f n C P k b p = Lk f n C P (k + 1) p := by
  unfold mixd
  rw [if_pos h]
end Go.Proofs.YtnlnbikiocdpdaaDoor
