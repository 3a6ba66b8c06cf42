/-
  Fermat's little theorem and Proth's test, from the beginning: for the two moduli.
-/
import Derived.WalkKit
namespace Go.Proofs.YtnlnbikiocdpdaaDoor.Prime
set_option linter.unusedVariables false

def IsPrime (p : Nat) : Prop := 2 ≤ p ∧ ∀ d, d ∣ p → d = 1 ∨ d = p

theorem exists_prime : ∀ (n : Nat), 2 ≤ n → ∃ p, IsPrime p ∧ p ∣ n := by
  intro n
  induction n using Nat.strongRecOn with
  | _ n ih =>
    intro h
    by_cases hp : IsPrime n
    · exact ⟨n, hp, Nat.dvd_refl n⟩
    · have : ∃ d, d ∣ n ∧ d ≠ 1 ∧ d ≠ n := by
        apply Classical.byContradiction
        intro hn
        refine hp ⟨h, fun d hd => ?_⟩
        by_cases h1 : d = 1
        · exact .inl h1
        · by_cases h2 : d = n
          · exact .inr h2
          · exact absurd ⟨d, hd, h1, h2⟩ hn
      obtain ⟨d, hd, h1, h2⟩ := this
      have hpos : 0 < d := Nat.pos_of_dvd_of_pos hd (by omega)
      have hle := Nat.le_of_dvd (by omega) hd
      obtain ⟨p, hp, hpd⟩ := ih d (by omega) (by omega)
      exact ⟨p, hp, Nat.dvd_trans hpd hd⟩

theorem coprime_of {p a : Nat} (hp : IsPrime p) (h : ¬ p ∣ a) : Nat.Coprime p a := by
  have hd : Nat.gcd p a ∣ p := Nat.gcd_dvd_left p a
  rcases hp.2 _ hd with h1 | h1
  · exact h1
  · exact absurd (h1 ▸ Nat.gcd_dvd_right p a) h
theorem dvd_mul {p a b : Nat} (hp : IsPrime p) (h : p ∣ a * b) : p ∣ a ∨ p ∣ b := by
  by_cases ha : p ∣ a
  · exact .inl ha
  · exact .inr ((coprime_of hp ha).dvd_of_dvd_mul_left h)

/-- Binomial coefficients. -/
def choose : Nat → Nat → Nat
  | _, 0 => 1
  | 0, _ + 1 => 0
  | n + 1, k + 1 => choose n k + choose n (k + 1)
theorem choose_zero (n : Nat) : choose n 0 = 1 := by cases n <;> rfl
theorem choose_gt : ∀ (n k : Nat), n < k → choose n k = 0
  | 0, k + 1, _ => rfl
  | n + 1, k + 1, h => by
    show choose n k + choose n (k + 1) = 0
    rw [choose_gt n k (by omega), choose_gt n (k + 1) (by omega)]
theorem choose_self (n : Nat) : choose n n = 1 := by
  induction n with
  | zero => rfl
  | succ n ih => show choose n n + choose n (n + 1) = 1; rw [ih, choose_gt n (n + 1) (by omega)]
theorem choose_mul (n k : Nat) : (k + 1) * choose (n + 1) (k + 1) = (n + 1) * choose n k := by
  induction n generalizing k with
  | zero =>
    cases k with
    | zero => rfl
    | succ k => show (k + 2) * (choose 0 (k + 1) + choose 0 (k + 2)) = 1 * choose 0 (k + 1); rfl
  | succ n ih =>
    show (k + 1) * (choose (n + 1) k + choose (n + 1) (k + 1)) = (n + 2) * choose (n + 1) k
    have h1 := ih k
    cases k with
    | zero =>
      have e : choose (n + 1) 0 = 1 := rfl
      have e2 : choose n 0 = 1 := choose_zero n
      rw [e2] at h1
      rw [e]
      omega
    | succ k =>
      have h2 := ih k
      have e : choose (n + 1) (k + 1) = choose n k + choose n (k + 1) := rfl
      rw [Nat.mul_add, h1]
      have h3 : (k + 1 + 1) * choose (n + 1) (k + 1) = (n + 1) * choose n k + choose (n + 1) (k + 1) := by rw [Nat.add_mul (k + 1) 1, h2, Nat.one_mul]
      rw [h3, show n + 2 = (n + 1) + 1 from rfl, Nat.add_mul (n + 1) 1, Nat.one_mul, e, Nat.mul_add]
      omega
/-- The sum of the first k terms of (a + 1)^n. -/
def terms (a n : Nat) : Nat → Nat
  | 0 => 0
  | k + 1 => terms a n k + choose n k * a ^ k
theorem terms_succ (a n k : Nat) : terms a (n + 1) (k + 1) = terms a n (k + 1) + a * terms a n k := by
  induction k with
  | zero => simp [terms, choose_zero]
  | succ k ih =>
    show terms a (n + 1) (k + 1) + choose (n + 1) (k + 1) * a ^ (k + 1) = terms a n (k + 1) + choose n (k + 1) * a ^ (k + 1) + a * (terms a n k + choose n k * a ^ k)
    rw [ih, show choose (n + 1) (k + 1) = choose n k + choose n (k + 1) from rfl, Nat.add_mul, Nat.mul_add, Nat.pow_succ]
    have : a * (choose n k * a ^ k) = choose n k * (a ^ k * a) := by rw [Nat.mul_comm a, Nat.mul_assoc]
    omega
theorem binomial (a n : Nat) : (a + 1) ^ n = terms a n (n + 1) := by
  induction n with
  | zero => simp [terms, choose]
  | succ n ih =>
    rw [terms_succ, Nat.pow_succ, ih, Nat.mul_add, Nat.mul_one]
    show terms a n (n + 1) * a + terms a n (n + 1) = terms a n (n + 1) + choose n (n + 1) * a ^ (n + 1) + a * terms a n (n + 1)
    rw [choose_gt n (n + 1) (by omega), Nat.mul_comm]
    omega
theorem dvd_choose {p k : Nat} (hp : IsPrime p) (h0 : 0 < k) (h : k < p) : p ∣ choose p k := by
  obtain ⟨n, rfl⟩ : ∃ n, p = n + 1 := ⟨p - 1, by omega⟩
  obtain ⟨j, rfl⟩ : ∃ j, k = j + 1 := ⟨k - 1, by omega⟩
  have h1 : n + 1 ∣ (j + 1) * choose (n + 1) (j + 1) := ⟨choose n j, choose_mul n j⟩
  rcases dvd_mul hp h1 with h2 | h2
  · exact absurd (Nat.le_of_dvd (by omega) h2) (by omega)
  · exact h2
theorem terms_mod {p a : Nat} (hp : IsPrime p) : ∀ k, 1 ≤ k → k ≤ p → terms a p k % p = 1 % p
  | 1, _, _ => by simp [terms, choose_zero]
  | k + 2, _, h => by
    show (terms a p (k + 1) + choose p (k + 1) * a ^ (k + 1)) % p = 1 % p
    rw [Nat.add_mod, terms_mod hp (k + 1) (by omega) (by omega), Nat.mod_eq_zero_of_dvd (Nat.dvd_trans (dvd_choose hp (by omega) (by omega)) (Nat.dvd_mul_right _ _))]
    simp
/-- Fermat: a^p is a, modulo a prime p. -/
theorem fermat {p : Nat} (hp : IsPrime p) (a : Nat) : a ^ p % p = a % p := by
  induction a with
  | zero => rw [Nat.zero_pow (by have := hp.1; omega)]
  | succ a ih =>
    rw [binomial]
    show (terms a p p + choose p p * a ^ p) % p = (a + 1) % p
    rw [choose_self, Nat.one_mul, Nat.add_mod, terms_mod hp p (by have := hp.1; omega) (Nat.le_refl _), ih, ← Nat.add_mod, Nat.add_comm]
theorem dvd_sub_of_mod {n a b : Nat} (h : a % n = b % n) (hab : b ≤ a) : n ∣ a - b := Nat.dvd_of_mod_eq_zero (Nat.sub_mod_eq_zero_of_mod_eq h)
theorem fermat_one {p a : Nat} (hp : IsPrime p) (h : ¬ p ∣ a) : a ^ (p - 1) % p = 1 := by
  have h0 : 1 ≤ a := by
    rcases Nat.eq_zero_or_pos a with h1 | h1
    · subst h1; exact absurd (Nat.dvd_zero p) h
    · exact h1
  have h2 := hp.1
  have h1 : p ∣ a * (a ^ (p - 1) - 1) := by
    rw [Nat.mul_sub, Nat.mul_one, ← Nat.pow_succ', show (p - 1).succ = p by omega]
    exact dvd_sub_of_mod (fermat hp a) (Nat.le_self_pow (by omega) a)
  have h3 : p ∣ a ^ (p - 1) - 1 := (coprime_of hp h).dvd_of_dvd_mul_left h1
  have h4 : 1 ≤ a ^ (p - 1) := Nat.one_le_pow _ _ h0
  obtain ⟨c, hc⟩ := h3
  rw [show a ^ (p - 1) = 1 + p * c by omega, Nat.add_mul_mod_self_left]
  exact Nat.mod_eq_of_lt (by omega)

/-- Powers that are 1 are so at the greatest common divisor. -/
theorem pow_gcd {n t : Nat} (hn : 1 < n) (hc : Nat.Coprime t n) : ∀ (a b : Nat), t ^ a % n = 1 → t ^ b % n = 1 → t ^ Nat.gcd a b % n = 1 := by
  intro a
  induction a using Nat.strongRecOn with
  | _ a ih =>
    intro b ha hb
    rcases Nat.eq_zero_or_pos a with h | h
    · subst h; rwa [Nat.gcd_zero_left]
    · rw [Nat.gcd_rec]
      refine ih (b % a) (Nat.mod_lt _ h) a ?_ ha
      have e : t ^ b % n = t ^ (b % a) % n := by
        conv => lhs; rw [← Nat.div_add_mod b a, Nat.pow_add, Nat.pow_mul]
        rw [Nat.mul_mod, Nat.pow_mod, ha, Nat.one_pow, Nat.mod_eq_of_lt hn, Nat.one_mul, Nat.mod_mod]
      rw [← e]; exact hb

theorem dvd_two_pow : ∀ (n d : Nat), d ∣ 2 ^ n → ∃ j, j ≤ n ∧ d = 2 ^ j
  | 0, d, h => ⟨0, Nat.le_refl _, Nat.dvd_one.1 h⟩
  | n + 1, d, h => by
    by_cases h2 : 2 ∣ d
    · obtain ⟨e, rfl⟩ := h2
      rw [Nat.pow_succ'] at h
      obtain ⟨j, hj, he⟩ := dvd_two_pow n e (Nat.dvd_of_mul_dvd_mul_left (by omega) h)
      exact ⟨j + 1, by omega, by rw [he, Nat.pow_succ']⟩
    · have hc : Nat.Coprime d 2 := by
        have h3 : Nat.gcd d 2 ∣ 2 := Nat.gcd_dvd_right d 2
        have h4 := Nat.le_of_dvd (by omega) h3
        have h5 : 0 < Nat.gcd d 2 := Nat.gcd_pos_of_pos_right _ (by omega)
        have h6 : Nat.gcd d 2 ≠ 2 := fun e => h2 (e ▸ Nat.gcd_dvd_left d 2)
        show Nat.gcd d 2 = 1
        omega
      rw [Nat.pow_succ'] at h
      obtain ⟨j, hj, he⟩ := dvd_two_pow n d (hc.dvd_of_dvd_mul_left h)
      exact ⟨j, by omega, he⟩

/-- Proth: if 2^n is above the root of q 2^n + 1, and some g to half of q 2^n is less one, then it is prime. -/
theorem proth {P q n g : Nat} (hP : P = q * 2 ^ (n + 1) + 1) (hn : P < 2 ^ (n + 1) * 2 ^ (n + 1)) (hq : 0 < q) (hg : g ^ (q * 2 ^ n) % P = P - 1) : IsPrime P := by
  have h2n : 0 < 2 ^ n := Nat.two_pow_pos n
  have hs : 2 ^ (n + 1) = 2 * 2 ^ n := Nat.pow_succ'
  have hP3 : 3 ≤ P := by
    have : 1 * 2 ^ (n + 1) ≤ q * 2 ^ (n + 1) := Nat.mul_le_mul_right _ hq
    omega
  refine ⟨by omega, fun d hd => Classical.byContradiction fun hno => ?_⟩
  have hd1 : d ≠ 1 := fun h => hno (.inl h)
  have hdP : d ≠ P := fun h => hno (.inr h)
  obtain ⟨e, he⟩ := hd
  have hd0 : d ≠ 0 := fun h => by rw [h, Nat.zero_mul] at he; omega
  have he0 : e ≠ 0 := fun h => by rw [h, Nat.mul_zero] at he; omega
  have he1 : e ≠ 1 := fun h => by rw [h, Nat.mul_one] at he; exact hdP he.symm
  -- a divisor whose square is not above P
  have hm : ∃ m, 2 ≤ m ∧ m ∣ P ∧ m * m ≤ P := by
    by_cases hle : d ≤ e
    · exact ⟨d, by omega, ⟨e, he⟩, by rw [he]; exact Nat.mul_le_mul_left _ hle⟩
    · exact ⟨e, by omega, ⟨d, by rw [Nat.mul_comm]; exact he⟩, by rw [he]; exact Nat.mul_le_mul_right _ (by omega)⟩
  obtain ⟨m, hm2, hmP, hmm⟩ := hm
  obtain ⟨r, hr, hrm⟩ := exists_prime m hm2
  have hrP : r ∣ P := Nat.dvd_trans hrm hmP
  have hrle : r ≤ m := Nat.le_of_dvd (by omega) hrm
  have hr2 := hr.1
  have hrodd : r ≠ 2 := by
    intro h
    rw [h] at hrP
    have h1 : q * 2 ^ (n + 1) = 2 * (q * 2 ^ n) := by rw [hs, Nat.mul_left_comm]
    omega
  have hgr : g ^ (q * 2 ^ n) % r = r - 1 := by
    have h1 : g ^ (q * 2 ^ n) % r = (P - 1) % r := by rw [← hg, Nat.mod_mod_of_dvd _ hrP]
    rw [h1]
    obtain ⟨c, hc⟩ := hrP
    have hc0 : c ≠ 0 := fun h => by rw [h, Nat.mul_zero] at hc; omega
    obtain ⟨k, rfl⟩ : ∃ k, c = k + 1 := ⟨c - 1, by omega⟩
    have : P - 1 = r - 1 + r * k := by rw [hc, Nat.mul_add, Nat.mul_one]; omega
    rw [this, Nat.add_mul_mod_self_left]
    exact Nat.mod_eq_of_lt (by omega)
  generalize ht : g ^ q = t at *
  have htp : t ^ 2 ^ n % r = r - 1 := by rw [← ht, ← Nat.pow_mul]; exact hgr
  have hrt : ¬ r ∣ t := fun h => by
    have h1 : r ∣ t ^ 2 ^ n := Nat.dvd_trans h ⟨t ^ (2 ^ n - 1), by rw [← Nat.pow_succ']; congr 1; omega⟩
    rw [Nat.mod_eq_zero_of_dvd h1] at htp
    omega
  have hc : Nat.Coprime t r := (coprime_of hr hrt).symm
  have h1 := fermat_one hr hrt
  have h2 : t ^ 2 ^ (n + 1) % r = 1 := by
    rw [hs, Nat.mul_comm, Nat.pow_mul, Nat.pow_mod, htp]
    obtain ⟨k, rfl⟩ : ∃ k, r = k + 2 := ⟨r - 2, by omega⟩
    rw [show k + 2 - 1 = k + 1 by omega, show (k + 1) ^ 2 = 1 + (k + 2) * k by rw [Nat.pow_two]; simp only [Nat.add_mul, Nat.mul_add]; omega, Nat.add_mul_mod_self_left]
    exact Nat.mod_eq_of_lt (by omega)
  have h3 := pow_gcd (by omega) hc _ _ h2 h1
  obtain ⟨j, hj, he⟩ := dvd_two_pow (n + 1) _ (Nat.gcd_dvd_left (2 ^ (n + 1)) (r - 1))
  rw [he] at h3
  have hjn : j = n + 1 := Classical.byContradiction fun hne => by
    have h4 : t ^ 2 ^ n % r = 1 := by
      rw [show n = j + (n - j) by omega, Nat.pow_add, Nat.pow_mul, Nat.pow_mod, h3, Nat.one_pow]
      exact Nat.mod_eq_of_lt (by omega)
    omega
  rw [hjn] at he
  have h5 : 2 ^ (n + 1) ∣ r - 1 := he ▸ Nat.gcd_dvd_right (2 ^ (n + 1)) (r - 1)
  have h6 := Nat.le_of_dvd (by omega) h5
  have h7 : 2 ^ (n + 1) * 2 ^ (n + 1) ≤ m * m := Nat.mul_le_mul (by omega) (by omega)
  omega

/-- Powers modulo p, by squaring: for reckoning. -/
def pmF (p a : Nat) : Nat → Nat → Nat
  | 0, _ => 1 % p
  | f + 1, n => (fun h => if n % 2 = 0 then h * h % p else h * h % p * a % p) (pmF p a f (n / 2))
theorem pmF_eq (p a : Nat) : ∀ f n, n < 2 ^ f → pmF p a f n = a ^ n % p
  | 0, n, h => by
    obtain rfl : n = 0 := by simpa using h
    rfl
  | f + 1, n, h => by
    have h1 := pmF_eq p a f (n / 2) (by rw [Nat.pow_succ] at h; omega)
    have e : a ^ n = a ^ (n / 2) * a ^ (n / 2) * a ^ (n % 2) := by
      rw [← Nat.pow_add, ← Nat.pow_add]; congr 1; omega
    show (fun h => if n % 2 = 0 then h * h % p else h * h % p * a % p) (pmF p a f (n / 2)) = _
    rw [h1, e]
    by_cases h2 : n % 2 = 0
    · simp only [h2, if_true, Nat.pow_zero, Nat.mul_one]; rw [← Nat.mul_mod]
    · show (if n % 2 = 0 then _ else _) = _
      rw [if_neg h2, show n % 2 = 1 by omega, Nat.pow_one]
      rw [← Nat.mul_mod, Nat.mul_mod (a ^ (n / 2) * a ^ (n / 2) % p), Nat.mod_mod, ← Nat.mul_mod]

theorem proth_pm {P q n g f : Nat} (hP : P = q * 2 ^ (n + 1) + 1) (hn : P < 2 ^ (n + 1) * 2 ^ (n + 1)) (hq : 0 < q) (hf : q * 2 ^ n < 2 ^ f) (hg : pmF P g f (q * 2 ^ n) = P - 1) : IsPrime P :=
  proth hP hn hq (by rw [← pmF_eq P g f _ hf]; exact hg)
theorem small_prime : IsPrime 18446744069414584321 :=
  proth_pm (q := 4294967295) (n := 31) (g := 7) (f := 64) (by decide) (by decide) (by decide) (by decide) (by decide +kernel)
theorem large_prime : IsPrime 340282366920938462946865773367900766209 :=
  proth_pm (q := 4611686018427387897) (n := 65) (g := 7) (f := 128) (by decide) (by decide) (by decide) (by decide) (by decide +kernel)
end Go.Proofs.YtnlnbikiocdpdaaDoor.Prime
