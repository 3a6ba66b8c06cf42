/-
  Plain mathematics: to which word a number is rounded.
-/
import Derived.Test.YtgmmdhefcijgeaaSubMath
namespace Go.Proofs.Ytgmmdhefcijgeaa
open Go Ieee
set_option linter.unusedVariables false

/-- What a rung stands for, in units of the least number. -/
def rv (r : Nat) : Nat := mg r * 2 ^ pl r
theorem rv_small {r : Nat} (h : r < 4503599627370496) : rv r = r := by
  unfold rv mg pl
  rw [if_pos h, show r / 4503599627370496 - 1 = 0 by omega, Nat.pow_zero, Nat.mul_one]
theorem rv_block (q k : Nat) (h : q = 0 ∨ 4503599627370496 ≤ k) (hk : k ≤ 9007199254740992) : rv (q * 4503599627370496 + k) = k * 2 ^ q := by
  by_cases hs : k < 4503599627370496
  · have hq : q = 0 := by omega
    subst hq
    rw [Nat.zero_mul, Nat.zero_add, rv_small hs, Nat.pow_zero, Nat.mul_one]
  · unfold rv mg pl
    rw [if_neg (by omega)]
    by_cases ht : k = 9007199254740992
    · subst ht
      rw [show (q * 4503599627370496 + 9007199254740992) % 4503599627370496 = 0 by omega, show (q * 4503599627370496 + 9007199254740992) / 4503599627370496 - 1 = q + 1 by omega, Nat.pow_succ]
      generalize 2 ^ q = t
      omega
    · rw [show (q * 4503599627370496 + k) % 4503599627370496 = k - 4503599627370496 by omega, show (q * 4503599627370496 + k) / 4503599627370496 - 1 = q by omega, show 4503599627370496 + (k - 4503599627370496) = k by omega]
theorem rv_form (r : Nat) : ∃ q k, r = q * 4503599627370496 + k ∧ (q = 0 ∨ 4503599627370496 ≤ k) ∧ k < 9007199254740992 := by
  by_cases h : r < 4503599627370496
  · exact ⟨0, r, by omega, .inl rfl, by omega⟩
  · exact ⟨r / 4503599627370496 - 1, r % 4503599627370496 + 4503599627370496, by omega, .inr (by omega), by omega⟩
theorem rv_succ (r : Nat) : rv r < rv (r + 1) := by
  obtain ⟨q, k, rfl, h, hk⟩ := rv_form r
  rw [rv_block q k h (by omega), show q * 4503599627370496 + k + 1 = q * 4503599627370496 + (k + 1) by omega, rv_block q (k + 1) (by omega) (by omega)]
  exact Nat.mul_lt_mul_of_pos_right (Nat.lt_succ_self k) (Nat.two_pow_pos q)
theorem rv_lt {r s : Nat} (h : r < s) : rv r < rv s := by
  obtain ⟨d, rfl⟩ : ∃ d, s = r + 1 + d := ⟨s - (r + 1), by omega⟩
  induction d with
  | zero => exact rv_succ r
  | succ d ih => exact Nat.lt_trans (ih (by omega)) (rv_succ _)
theorem rv_le {r s : Nat} (h : r ≤ s) : rv r ≤ rv s := by
  rcases Nat.lt_or_eq_of_le h with h | rfl
  · exact Nat.le_of_lt (rv_lt h)
  · exact Nat.le_refl _
theorem le_of_rv {r s : Nat} (h : rv r ≤ rv s) : r ≤ s := Nat.le_of_not_lt fun hl => by have := rv_lt hl; omega
theorem lt_of_rv {r s : Nat} (h : rv r < rv s) : r < s := Nat.lt_of_not_le fun hl => by have := rv_le hl; omega
theorem rv_inj {r s : Nat} (h : rv r = rv s) : r = s := Nat.le_antisymm (le_of_rv (Nat.le_of_eq h)) (le_of_rv (Nat.le_of_eq h.symm))
theorem rv_zero : rv 0 = 0 := rv_small (by decide)
/-- A gap wide enough. -/
theorem gap_cases (n drop : Nat) : (1 <<< min drop (n.log2 + 2) = 2 ^ drop) ∨ (1 <<< min drop (n.log2 + 2) = 2 ^ (n.log2 + 2) ∧ n.log2 + 2 < drop) := by
  rw [Nat.one_shiftLeft]
  by_cases h : drop ≤ n.log2 + 2
  · rw [Nat.min_eq_left h]; exact .inl rfl
  · rw [Nat.min_eq_right (by omega)]; exact .inr ⟨rfl, by omega⟩
theorem small_gap {n d : Nat} (h : n.log2 + 2 ≤ d) : n / 2 ^ d = 0 ∧ n % 2 ^ d = n ∧ 2 * n < 2 ^ d := by
  have h1 : n < 2 ^ (n.log2 + 1) := Nat.lt_log2_self
  have h2 : 2 ^ (n.log2 + 2) ≤ 2 ^ d := Nat.pow_le_pow_right (by decide) h
  have h3 : 2 ^ (n.log2 + 2) = 2 * 2 ^ (n.log2 + 1) := by rw [Nat.pow_succ, Nat.mul_comm]
  exact ⟨Nat.div_eq_of_lt (by omega), Nat.mod_eq_of_lt (by omega), by omega⟩
theorem cut_even (neg : Bool) (n drop : Nat) : Toward.even.cut neg n drop = n / 2 ^ drop + (if 2 ^ drop < 2 * (n % 2 ^ drop) ∨ (2 ^ drop = 2 * (n % 2 ^ drop) ∧ n / 2 ^ drop % 2 = 1) then 1 else 0) := by
  unfold Toward.cut
  dsimp only
  rcases gap_cases n drop with e | ⟨e, h⟩
  · rw [e]
    congr 1
    generalize 2 ^ drop = g
    by_cases h : g < 2 * (n % g) ∨ (g = 2 * (n % g) ∧ n / g % 2 = 1)
    · rw [if_pos h]
      rcases h with h | ⟨h1, h2⟩
      · simp [h]
      · simp [← h1, h2]
    · rw [if_neg h]
      have h1 : ¬ g < 2 * (n % g) := fun x => h (.inl x)
      have h2 : ¬ (g = 2 * (n % g) ∧ n / g % 2 = 1) := fun x => h (.inr x)
      simp only [h1, decide_false, Bool.false_or]
      by_cases h3 : g = 2 * (n % g)
      · have h4 : ¬ n / g % 2 = 1 := fun x => h2 ⟨h3, x⟩
        simp [h4]
      · have h5 : (g == 2 * (n % g)) = false := by simpa using h3
        simp [h5]
  · obtain ⟨a1, a2, a3⟩ := small_gap (n := n) (d := n.log2 + 2) (Nat.le_refl _)
    obtain ⟨b1, b2, b3⟩ := small_gap (n := n) (d := drop) (by omega)
    rw [e, a1, a2, b1, b2, if_neg (by omega)]
    have h1 : ¬ 2 ^ (n.log2 + 2) < 2 * n := by omega
    have h2 : (2 ^ (n.log2 + 2) == 2 * n) = false := by
      have : 2 ^ (n.log2 + 2) ≠ 2 * n := by omega
      simpa using this
    simp [h1, h2]
theorem cut_down (neg : Bool) (n drop : Nat) : Toward.down.cut neg n drop = n / 2 ^ drop + (if neg = true ∧ n % 2 ^ drop ≠ 0 then 1 else 0) := by
  unfold Toward.cut
  dsimp only
  rcases gap_cases n drop with e | ⟨e, h⟩
  · rw [e]
    congr 1
    generalize n % 2 ^ drop = r
    cases neg <;> by_cases h : r = 0 <;> simp [h]
  · obtain ⟨a1, a2, a3⟩ := small_gap (n := n) (d := n.log2 + 2) (Nat.le_refl _)
    obtain ⟨b1, b2, b3⟩ := small_gap (n := n) (d := drop) (by omega)
    rw [e, a1, a2, b1, b2]
    cases neg <;> by_cases h : n = 0 <;> simp [h]
theorem cut_zero (neg : Bool) (n drop : Nat) : Toward.zero.cut neg n drop = n / 2 ^ drop := by
  unfold Toward.cut
  dsimp only
  rcases gap_cases n drop with e | ⟨e, h⟩
  · rw [e]; rfl
  · obtain ⟨a1, a2, a3⟩ := small_gap (n := n) (d := n.log2 + 2) (Nat.le_refl _)
    obtain ⟨b1, b2, b3⟩ := small_gap (n := n) (d := drop) (by omega)
    rw [e, a1, b1]; rfl
/-- The rung to which a number is rounded. -/
abbrev nr (m : Nat) (p : Int) : Nat := Ieee.double.nearest false m p
theorem nearest_word (s : Bool) (m : Nat) (p : Int) : Ieee.double.nearest s m p = (if s then 9223372036854775808 else 0) + nr m p := by
  unfold nr Format.nearest Format.word
  dsimp only
  rw [show Ieee.double.signWeight = 9223372036854775808 by decide]
  have hc : ∀ n d, Toward.even.cut true n d = Toward.even.cut false n d := fun n d => by rw [cut_even, cut_even]
  cases s <;> split <;> simp [hc]
theorem nr_le (m : Nat) (p : Int) : nr m p ≤ 9218868437227405312 := by
  unfold nr Format.nearest Format.word
  dsimp only
  rw [show Ieee.double.infRung = 9218868437227405312 by decide]
  split
  · simp
  · simp only [Bool.false_eq_true, if_false]; exact Nat.min_le_right _ _
theorem nr_form (m : Nat) (p : Int) (hm : m ≠ 0) : ∃ q a d : Nat, (p + 1074).toNat + d = a + q + (-(p + 1074)).toNat ∧ m * 2 ^ a / 2 ^ d < 9007199254740992 ∧ (q = 0 ∨ 4503599627370496 ≤ m * 2 ^ a / 2 ^ d) ∧
    nr m p = min (q * 4503599627370496 + Toward.even.cut false (m * 2 ^ a) d) 9218868437227405312 := by
  obtain ⟨L, hL⟩ : ∃ L, L = m.log2 := ⟨_, rfl⟩
  have h1 : m < 2 ^ (L + 1) := by rw [hL]; exact Nat.lt_log2_self
  have h2 : 2 ^ L ≤ m := by rw [hL]; exact Nat.log2_self_le hm
  obtain ⟨last, hlast⟩ : ∃ last : Int, last = max (p + L - 52) (-1074) := ⟨_, rfl⟩
  refine ⟨(last + 1074).toNat, (p - last).toNat, (last - p).toNat, by omega, ?_, ?_, ?_⟩
  · rw [Nat.div_lt_iff_lt_mul (Nat.two_pow_pos _)]
    have e1 : m * 2 ^ (p - last).toNat < 2 ^ (L + 1) * 2 ^ (p - last).toNat := Nat.mul_lt_mul_of_pos_right h1 (Nat.two_pow_pos _)
    rw [← Nat.pow_add] at e1
    have e2 : 2 ^ (L + 1 + (p - last).toNat) ≤ 2 ^ (53 + (last - p).toNat) := Nat.pow_le_pow_right (by decide) (by omega)
    rw [Nat.pow_add 2 53] at e2
    exact Nat.lt_of_lt_of_le e1 e2
  · by_cases hq : (last + 1074).toNat = 0
    · exact .inl hq
    · refine .inr ?_
      rw [Nat.le_div_iff_mul_le (Nat.two_pow_pos _)]
      have e1 : 2 ^ L * 2 ^ (p - last).toNat ≤ m * 2 ^ (p - last).toNat := Nat.mul_le_mul_right _ h2
      rw [← Nat.pow_add] at e1
      have e2 : 2 ^ (52 + (last - p).toNat) ≤ 2 ^ (L + (p - last).toNat) := Nat.pow_le_pow_right (by decide) (by omega)
      rw [Nat.pow_add 2 52] at e2
      exact Nat.le_trans e2 e1
  · unfold nr Format.nearest Format.word
    dsimp only
    rw [if_neg hm, show Ieee.double.infRung = 9218868437227405312 by decide, show Ieee.double.binade = 4503599627370496 by decide, show Ieee.double.leastPlace = -1074 by decide, show ((Ieee.double.fractionBits : Nat) : Int) = 52 by decide, ← hL, ← hlast, Nat.shiftLeft_eq]
    simp only [Bool.false_eq_true, if_false]
    congr 3
theorem nr_zero (p : Int) : nr 0 p = 0 := by
  unfold nr Format.nearest Format.word
  simp
/-- Rounded, it is not above what it was not above. -/
theorem near_le {m : Nat} {p : Int} {r : Nat} (h : m * 2 ^ (p + 1074).toNat ≤ rv r * 2 ^ (-(p + 1074)).toNat) : nr m p ≤ r := by
  by_cases hm : m = 0
  · subst hm; rw [nr_zero]; exact Nat.zero_le _
  obtain ⟨q, a, d, he, hlt, hlo, hn⟩ := nr_form m p hm
  rw [hn]
  refine Nat.le_trans (Nat.min_le_left _ _) ?_
  have hpow : 2 ^ (p + 1074).toNat * 2 ^ d = 2 ^ a * 2 ^ q * 2 ^ (-(p + 1074)).toNat := by rw [← Nat.pow_add, ← Nat.pow_add, ← Nat.pow_add, he]
  generalize (p + 1074).toNat = up at *
  generalize (-(p + 1074)).toNat = dn at *
  have h1 : m * 2 ^ a * 2 ^ q * 2 ^ dn ≤ rv r * 2 ^ d * 2 ^ dn := by
    have h2 : m * 2 ^ up * 2 ^ d ≤ rv r * 2 ^ dn * 2 ^ d := Nat.mul_le_mul_right _ h
    rw [Nat.mul_assoc m, hpow] at h2
    calc m * 2 ^ a * 2 ^ q * 2 ^ dn = m * (2 ^ a * 2 ^ q * 2 ^ dn) := by simp only [Nat.mul_assoc]
      _ ≤ rv r * 2 ^ dn * 2 ^ d := h2
      _ = rv r * 2 ^ d * 2 ^ dn := Nat.mul_right_comm _ _ _
  have h3 : m * 2 ^ a * 2 ^ q ≤ rv r * 2 ^ d := Nat.le_of_mul_le_mul_right h1 (Nat.two_pow_pos dn)
  rw [cut_even]
  generalize m * 2 ^ a = n at *
  have hdm : 2 ^ d * (n / 2 ^ d) + n % 2 ^ d = n := Nat.div_add_mod _ _
  have hd : 0 < 2 ^ d := Nat.two_pow_pos d
  generalize hlow : n / 2 ^ d = low at *
  generalize hrest : n % 2 ^ d = rest at *
  split
  · rename_i hmore
    have hr : 0 < rest := by omega
    have h4 : rv (q * 4503599627370496 + low) < rv r := by
      rw [rv_block q low hlo (by omega)]
      have h5 : low * 2 ^ d < n := by rw [Nat.mul_comm]; omega
      have h6 : low * 2 ^ d * 2 ^ q < n * 2 ^ q := Nat.mul_lt_mul_of_pos_right h5 (Nat.two_pow_pos q)
      have h7 : low * 2 ^ q * 2 ^ d < rv r * 2 ^ d := by rw [Nat.mul_right_comm]; omega
      exact Nat.lt_of_mul_lt_mul_right h7
    have := lt_of_rv h4
    omega
  · have h4 : rv (q * 4503599627370496 + low) ≤ rv r := by
      rw [rv_block q low hlo (by omega)]
      have h5 : low * 2 ^ d ≤ n := by rw [Nat.mul_comm]; omega
      have h6 : low * 2 ^ d * 2 ^ q ≤ n * 2 ^ q := Nat.mul_le_mul_right _ h5
      have h7 : low * 2 ^ q * 2 ^ d ≤ rv r * 2 ^ d := by rw [Nat.mul_right_comm]; omega
      exact Nat.le_of_mul_le_mul_right h7 hd
    have := le_of_rv h4
    omega
/-- Rounded, it is not below what it was not below. -/
theorem le_near {m : Nat} {p : Int} {r : Nat} (hr : r ≤ 9218868437227405312) (h : rv r * 2 ^ (-(p + 1074)).toNat ≤ m * 2 ^ (p + 1074).toNat) : r ≤ nr m p := by
  by_cases hm : m = 0
  · subst hm
    rw [Nat.zero_mul] at h
    have h0 : rv r = 0 := by
      rcases Nat.mul_eq_zero.1 (Nat.le_zero.1 h) with h | h
      · exact h
      · have := Nat.two_pow_pos (-(p + 1074)).toNat; omega
    have : r = 0 := rv_inj (h0.trans rv_zero.symm)
    omega
  obtain ⟨q, a, d, he, hlt, hlo, hn⟩ := nr_form m p hm
  rw [hn]
  refine Nat.le_min.2 ⟨?_, hr⟩
  have hpow : 2 ^ (p + 1074).toNat * 2 ^ d = 2 ^ a * 2 ^ q * 2 ^ (-(p + 1074)).toNat := by rw [← Nat.pow_add, ← Nat.pow_add, ← Nat.pow_add, he]
  generalize (p + 1074).toNat = up at *
  generalize (-(p + 1074)).toNat = dn at *
  have h1 : rv r * 2 ^ d * 2 ^ dn ≤ m * 2 ^ a * 2 ^ q * 2 ^ dn := by
    have h2 : rv r * 2 ^ dn * 2 ^ d ≤ m * 2 ^ up * 2 ^ d := Nat.mul_le_mul_right _ h
    rw [Nat.mul_assoc m, hpow] at h2
    calc rv r * 2 ^ d * 2 ^ dn = rv r * 2 ^ dn * 2 ^ d := Nat.mul_right_comm _ _ _
      _ ≤ m * (2 ^ a * 2 ^ q * 2 ^ dn) := h2
      _ = m * 2 ^ a * 2 ^ q * 2 ^ dn := by simp only [Nat.mul_assoc]
  have h3 : rv r * 2 ^ d ≤ m * 2 ^ a * 2 ^ q := Nat.le_of_mul_le_mul_right h1 (Nat.two_pow_pos dn)
  rw [cut_even]
  generalize m * 2 ^ a = n at *
  have hdm : 2 ^ d * (n / 2 ^ d) + n % 2 ^ d = n := Nat.div_add_mod _ _
  have hml : n % 2 ^ d < 2 ^ d := Nat.mod_lt _ (Nat.two_pow_pos d)
  have key : r ≤ q * 4503599627370496 + n / 2 ^ d := by
    apply Nat.le_of_not_lt
    intro hgt
    have h4 := rv_le (show q * 4503599627370496 + (n / 2 ^ d + 1) ≤ r by omega)
    rw [rv_block q _ (by omega) (by omega)] at h4
    have h5 : (n / 2 ^ d + 1) * 2 ^ q * 2 ^ d ≤ n * 2 ^ q := Nat.le_trans (Nat.mul_le_mul_right _ h4) h3
    rw [Nat.mul_right_comm] at h5
    have h6 := Nat.le_of_mul_le_mul_right h5 (Nat.two_pow_pos q)
    rw [Nat.add_mul, Nat.one_mul, Nat.mul_comm] at h6
    omega
  omega
/-- z is the rung to which N / D is rounded. -/
def Rounds (z N D : Nat) : Prop := z ≤ 9218868437227405312 ∧ ∀ r, (N ≤ rv r * D → z ≤ r) ∧ (r ≤ 9218868437227405312 → rv r * D ≤ N → r ≤ z)
theorem rounds_nr {m : Nat} {p : Int} {N D : Nat} (hD : 0 < D) (h : m * 2 ^ (p + 1074).toNat * D = N * 2 ^ (-(p + 1074)).toNat) : Rounds (nr m p) N D := by
  refine ⟨nr_le _ _, fun r => ⟨fun h1 => near_le ?_, fun hr h1 => le_near hr ?_⟩⟩
  · refine Nat.le_of_mul_le_mul_right (c := D) ?_ hD
    rw [h, Nat.mul_right_comm (rv r)]
    exact Nat.mul_le_mul_right _ h1
  · refine Nat.le_of_mul_le_mul_right (c := D) ?_ hD
    rw [h, Nat.mul_right_comm (rv r)]
    exact Nat.mul_le_mul_right _ h1
theorem Rounds.exact {z N D r : Nat} (h : Rounds z N D) (hr : r ≤ 9218868437227405312) (e : N = rv r * D) : z = r :=
  Nat.le_antisymm ((h.2 r).1 (Nat.le_of_eq e)) ((h.2 r).2 hr (Nat.le_of_eq e.symm))
/-- What can be told exactly. -/
theorem exists_rung (m e : Nat) (hm : m < 9007199254740992) (he : e ≤ 2045) : ∃ r, r < 9218868437227405312 ∧ rv r = m * 2 ^ e := by
  by_cases h0 : m = 0
  · subst h0; exact ⟨0, by decide, by rw [rv_zero, Nat.zero_mul]⟩
  have h1 : m < 2 ^ (m.log2 + 1) := Nat.lt_log2_self
  have h2 : 2 ^ m.log2 ≤ m := Nat.log2_self_le h0
  have hL : m.log2 < 53 := by
    apply Nat.lt_of_not_le
    intro h
    have := Nat.pow_le_pow_right (n := 2) (by decide) h
    have : (2 : Nat) ^ 53 = 9007199254740992 := by decide
    omega
  generalize m.log2 = L at *
  have h3 : 2 ^ (52 - L) * 2 ^ L = 4503599627370496 := by rw [← Nat.pow_add, show 52 - L + L = 52 by omega]
  by_cases hj : 52 - L ≤ e
  · have k1 : 4503599627370496 ≤ m * 2 ^ (52 - L) := by
      rw [← h3, Nat.mul_comm]; exact Nat.mul_le_mul_right _ h2
    have k2 : m * 2 ^ (52 - L) < 9007199254740992 := by
      have := Nat.mul_lt_mul_of_pos_right h1 (Nat.two_pow_pos (52 - L))
      rw [Nat.pow_succ, Nat.mul_right_comm, Nat.mul_comm (2 ^ L), h3] at this
      exact this
    refine ⟨(e - (52 - L)) * 4503599627370496 + m * 2 ^ (52 - L), by omega, ?_⟩
    rw [rv_block _ _ (.inr k1) (by omega), Nat.mul_assoc, ← Nat.pow_add, show 52 - L + (e - (52 - L)) = e by omega]
  · have k2 : m * 2 ^ e < 9007199254740992 := by
      have a1 := Nat.mul_lt_mul_of_pos_right h1 (Nat.two_pow_pos (52 - L))
      rw [Nat.pow_succ, Nat.mul_right_comm, Nat.mul_comm (2 ^ L), h3] at a1
      have a2 : m * 2 ^ e ≤ m * 2 ^ (52 - L) := Nat.mul_le_mul_left _ (Nat.pow_le_pow_right (by decide) (by omega))
      omega
    refine ⟨m * 2 ^ e, by omega, ?_⟩
    have := rv_block 0 (m * 2 ^ e) (.inl rfl) (by omega)
    rw [Nat.zero_mul, Nat.zero_add, Nat.pow_zero, Nat.mul_one] at this
    exact this
end Go.Proofs.Ytgmmdhefcijgeaa
