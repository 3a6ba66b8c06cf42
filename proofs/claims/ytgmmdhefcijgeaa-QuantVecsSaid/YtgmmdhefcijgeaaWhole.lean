/-
  Plain mathematics: quotients; whole parts of numbers with a fraction; to whole numbers.
-/
import Derived.Test.YtgmmdhefcijgeaaArith
namespace Go.Proofs.Ytgmmdhefcijgeaa
open Go Ieee
set_option linter.unusedVariables false

/-- The whole part of a word, and what is left. -/
abbrev wh (x : Nat) : Nat := rv (rg x) / one
abbrev rest (x : Nat) : Nat := rv (rg x) % one
theorem whole_cut (r : Nat) : ∃ t, 0 < t ∧ 2 ^ (-((-1074 : Int) + (pl r : Nat))).toNat * t = one ∧ (mg r * 2 ^ ((-1074 : Int) + (pl r : Nat)).toNat) / 2 ^ (-((-1074 : Int) + (pl r : Nat))).toNat = rv r / one ∧
    (mg r * 2 ^ ((-1074 : Int) + (pl r : Nat)).toNat) % 2 ^ (-((-1074 : Int) + (pl r : Nat))).toNat * t = rv r % one := by
  unfold rv one
  have hE := E0_eq
  generalize mg r = m
  generalize pl r = p
  by_cases h : p ≤ 1074
  · refine ⟨2 ^ p, Nat.two_pow_pos _, ?_, ?_, ?_⟩
    · rw [← Nat.pow_add]; congr 1; omega
    · rw [show ((-1074 : Int) + (p : Int)).toNat = 0 by omega, Nat.pow_zero, Nat.mul_one]
      have e : 2 ^ E0 = 2 ^ (-((-1074 : Int) + (p : Int))).toNat * 2 ^ p := by rw [← Nat.pow_add]; congr 1; omega
      rw [e, Nat.mul_div_mul_right _ _ (Nat.two_pow_pos _)]
    · rw [show ((-1074 : Int) + (p : Int)).toNat = 0 by omega, Nat.pow_zero, Nat.mul_one]
      have e : 2 ^ E0 = 2 ^ (-((-1074 : Int) + (p : Int))).toNat * 2 ^ p := by rw [← Nat.pow_add]; congr 1; omega
      rw [e, Nat.mul_mod_mul_right]
  · have e0 : (-((-1074 : Int) + (p : Int))).toNat = 0 := by omega
    have e : 2 ^ p = 2 ^ ((-1074 : Int) + (p : Int)).toNat * 2 ^ E0 := by rw [← Nat.pow_add]; congr 1; omega
    refine ⟨2 ^ E0, Nat.two_pow_pos _, ?_, ?_, ?_⟩
    · rw [e0, Nat.pow_zero, Nat.one_mul]
    · rw [e0, Nat.pow_zero, Nat.div_one, e, ← Nat.mul_assoc, Nat.mul_div_cancel _ (Nat.two_pow_pos _)]
    · rw [e0, Nat.pow_zero, Nat.mod_one, Nat.zero_mul, e, ← Nat.mul_assoc, Nat.mul_mod_left]
theorem ite_iff {p q : Prop} [Decidable p] [Decidable q] (h : p ↔ q) : (if p then (1 : Nat) else 0) = if q then 1 else 0 := by
  by_cases hp : p
  · rw [if_pos hp, if_pos (h.1 hp)]
  · rw [if_neg hp, if_neg (fun hq => hp (h.2 hq))]
def down (x : Nat) : Nat := wh x + (if sg x = true ∧ rest x ≠ 0 then 1 else 0)
def evn (x : Nat) : Nat := wh x + (if one < 2 * rest x ∨ (one = 2 * rest x ∧ wh x % 2 = 1) then 1 else 0)
/-- A whole number, its sign told. -/
theorem whole_word (s : Bool) (M : Nat) : Rounds (rg (Ieee.double.nearest s M 0)) (M * one) 1 ∧ sg (Ieee.double.nearest s M 0) = s ∧ Ieee.double.nearest s M 0 < 18446744073709551616 := by
  obtain ⟨h1, h2, h3⟩ := near_parts s M 0
  refine ⟨?_, h2, h3⟩
  rw [h1]
  refine rounds_nr (by decide) ?_
  unfold one
  rw [show ((0 : Int) + 1074).toNat = E0 from rfl, show (-((0 : Int) + 1074)).toNat = 0 by decide]
theorem integral_fin (way : Toward) (x : Nat) (hx : fin x) : (FloatKind.f64.decode x).integral way = .number (sg x) (way.cut (sg x) (mg (rg x) * 2 ^ ((-1074 : Int) + (pl (rg x) : Nat)).toNat) (-((-1074 : Int) + (pl (rg x) : Nat))).toNat) 0 := by
  show (Ieee.double.read x).integral way = _
  rw [read_finite x hx]
  simp only [Datum.integral, Nat.shiftLeft_eq]
theorem floor_fin {x : Nat} (hx : fin x) : ∃ z, FloatKind.f64.encode ((FloatKind.f64.decode x).integral .down) = z ∧ Rounds (rg z) (down x * one) 1 ∧ sg z = sg x ∧ z < 18446744073709551616 := by
  rw [integral_fin _ _ hx, cut_down]
  obtain ⟨t, ht, h1, h2, h3⟩ := whole_cut (rg x)
  rw [h2]
  have e : (sg x = true ∧ (mg (rg x) * 2 ^ ((-1074 : Int) + (pl (rg x) : Nat)).toNat) % 2 ^ (-((-1074 : Int) + (pl (rg x) : Nat))).toNat ≠ 0) ↔ (sg x = true ∧ rest x ≠ 0) := by
    unfold rest
    rw [← h3]
    constructor
    · rintro ⟨a, b⟩; exact ⟨a, Nat.mul_ne_zero b (by omega)⟩
    · rintro ⟨a, b⟩; exact ⟨a, fun e => b (by rw [e, Nat.zero_mul])⟩
  rw [ite_iff e]
  exact ⟨_, rfl, whole_word (sg x) (down x)⟩
theorem even_fin {x : Nat} (hx : fin x) : ∃ z, FloatKind.f64.encode ((FloatKind.f64.decode x).integral .even) = z ∧ Rounds (rg z) (evn x * one) 1 ∧ sg z = sg x ∧ z < 18446744073709551616 := by
  rw [integral_fin _ _ hx, cut_even]
  obtain ⟨t, ht, h1, h2, h3⟩ := whole_cut (rg x)
  rw [h2]
  have e : (2 ^ (-((-1074 : Int) + (pl (rg x) : Nat))).toNat < 2 * ((mg (rg x) * 2 ^ ((-1074 : Int) + (pl (rg x) : Nat)).toNat) % 2 ^ (-((-1074 : Int) + (pl (rg x) : Nat))).toNat) ∨ (2 ^ (-((-1074 : Int) + (pl (rg x) : Nat))).toNat = 2 * ((mg (rg x) * 2 ^ ((-1074 : Int) + (pl (rg x) : Nat)).toNat) % 2 ^ (-((-1074 : Int) + (pl (rg x) : Nat))).toNat) ∧ rv (rg x) / one % 2 = 1)) ↔
      (one < 2 * rest x ∨ (one = 2 * rest x ∧ wh x % 2 = 1)) := by
    unfold rest wh
    rw [← h3]
    generalize (mg (rg x) * 2 ^ ((-1074 : Int) + (pl (rg x) : Nat)).toNat) % 2 ^ (-((-1074 : Int) + (pl (rg x) : Nat))).toNat = a
    generalize 2 ^ (-((-1074 : Int) + (pl (rg x) : Nat))).toNat = g at *
    generalize rv (rg x) / one % 2 = b
    rw [← h1, ← Nat.mul_assoc]
    constructor
    · rintro (h | ⟨h, k⟩)
      · exact .inl (Nat.mul_lt_mul_of_pos_right h ht)
      · exact .inr ⟨by rw [h], k⟩
    · rintro (h | ⟨h, k⟩)
      · exact .inl (Nat.lt_of_mul_lt_mul_right h)
      · exact .inr ⟨Nat.eq_of_mul_eq_mul_right ht h, k⟩
  rw [ite_iff e]
  exact ⟨_, rfl, whole_word (sg x) (evn x)⟩
/-- To a whole number. -/
theorem toInt_fin {x : Nat} (hx : fin x) : (FloatKind.f64.decode x).toInt .zero = some (if sg x then -(wh x : Int) else (wh x : Int)) := by
  unfold Datum.toInt
  rw [integral_fin _ _ hx, cut_zero]
  obtain ⟨t, ht, h1, h2, h3⟩ := whole_cut (rg x)
  simp only [h2]
  unfold signed
  rw [Nat.shiftLeft_zero]
theorem toVal_fin {x : Nat} (hx : fin x) {k : IntKind} (h1 : k.min ≤ (if sg x then -(wh x : Int) else (wh x : Int))) (h2 : (if sg x then -(wh x : Int) else (wh x : Int)) ≤ k.max) :
    floatToIntVal .f64 x k = some (if sg x then -(wh x : Int) else (wh x : Int)) := by
  unfold floatToIntVal
  rw [toInt_fin hx]
  simp only [h1, h2, and_self, if_true]
/-- A quotient's digits tell enough of it. -/
theorem quo_digits {m n a b : Nat} (hn : n ≠ 0) (hm : m < 9007199254740992) :
    Rounds (nr (2 * (m * 2 ^ (52 + 2 + n.log2 - m.log2) / n) + (m * 2 ^ (52 + 2 + n.log2 - m.log2) % n != 0).toNat) ((-1074 : Int) + (a : Nat) - ((-1074 : Int) + (b : Nat)) - ((52 + 2 + n.log2 - m.log2 : Nat) : Int) - 1)) (m * 2 ^ a * one) (n * 2 ^ b) := by
  by_cases h0 : m = 0
  · subst h0
    simp only [Nat.zero_mul, Nat.zero_div, Nat.zero_mod, Nat.mul_zero, bne_self_eq_false, Bool.toNat_false, Nat.add_zero]
    rw [nr_zero]
    refine ⟨by decide, fun r => ⟨fun _ => Nat.zero_le _, fun _ h => ?_⟩⟩
    have hp : 0 < n * 2 ^ b := Nat.mul_pos (Nat.pos_of_ne_zero hn) (Nat.two_pow_pos b)
    have h1 : rv r = 0 := by
      rcases Nat.mul_eq_zero.1 (Nat.le_zero.1 h) with h | h
      · exact h
      · omega
    exact Nat.le_of_eq (rv_inj (h1.trans rv_zero.symm))
  have l1 : 2 ^ m.log2 ≤ m := Nat.log2_self_le h0
  have l2 : n < 2 ^ (n.log2 + 1) := Nat.lt_log2_self
  have l3 : m.log2 < 53 := by
    apply Nat.lt_of_not_le
    intro h
    have := Nat.pow_le_pow_right (n := 2) (by decide) h
    have : (2 : Nat) ^ 53 = 9007199254740992 := by decide
    omega
  have hE := E0_eq
  obtain ⟨more, hmore⟩ : ∃ more, more = 52 + 2 + n.log2 - m.log2 := ⟨_, rfl⟩
  rw [← hmore]
  have hF : 9007199254740992 * n ≤ m * 2 ^ more := by
    have e1 : 2 ^ m.log2 * 2 ^ more ≤ m * 2 ^ more := Nat.mul_le_mul_right _ l1
    rw [← Nat.pow_add, show m.log2 + more = 53 + (n.log2 + 1) by omega, Nat.pow_add] at e1
    have e2 : 2 ^ 53 * n ≤ 2 ^ 53 * 2 ^ (n.log2 + 1) := Nat.mul_le_mul_left _ (Nat.le_of_lt l2)
    exact Nat.le_trans e2 e1
  obtain ⟨P, hP⟩ : ∃ P : Int, P = (-1074 : Int) + (a : Nat) - ((-1074 : Int) + (b : Nat)) - (more : Int) - 1 := ⟨_, rfl⟩
  rw [← hP]
  have hexp : 2 ^ a * one * 2 ^ (-(P + 1074)).toNat = 2 ^ b * 2 ^ more * 2 * 2 ^ (P + 1074).toNat := by
    unfold one
    rw [show (2 ^ b * 2 ^ more * 2 : Nat) = 2 ^ b * 2 ^ more * 2 ^ 1 by rfl, ← Nat.pow_add, ← Nat.pow_add, ← Nat.pow_add, ← Nat.pow_add, ← Nat.pow_add]
    congr 1
    omega
  have key : ∀ r : Nat, m * 2 ^ a * one * 2 ^ (-(P + 1074)).toNat = 2 * (m * 2 ^ more) * 2 ^ (P + 1074).toNat * 2 ^ b := fun r => by
    rw [Nat.mul_assoc m, Nat.mul_assoc m, hexp]
    simp only [Nat.mul_assoc, Nat.mul_left_comm, Nat.mul_comm]
  have hn0 : 0 < n := Nat.pos_of_ne_zero hn
  refine ⟨nr_le _ _, fun r => ⟨fun h => near_le ?_, fun hr h => le_near hr ?_⟩⟩
  · obtain ⟨q, k, rfl, hq, hk⟩ := rv_form r
    rw [rv_block q k hq (by omega)] at h ⊢
    have h1 : m * 2 ^ a * one * 2 ^ (-(P + 1074)).toNat ≤ k * 2 ^ q * (n * 2 ^ b) * 2 ^ (-(P + 1074)).toNat := Nat.mul_le_mul_right _ h
    rw [key 0] at h1
    generalize (P + 1074).toNat = up at *
    generalize (-(P + 1074)).toNat = dn at *
    have h2 : 2 * (m * 2 ^ more) * 2 ^ up ≤ k * (2 ^ q * 2 ^ dn) * n := by
      refine Nat.le_of_mul_le_mul_right (c := 2 ^ b) ?_ (Nat.two_pow_pos b)
      refine Nat.le_trans h1 (Nat.le_of_eq ?_)
      simp only [Nat.mul_assoc, Nat.mul_left_comm, Nat.mul_comm]
    rw [Nat.mul_assoc k, ← Nat.pow_add]
    rw [← Nat.pow_add] at h2
    clear h h1 key hexp
    generalize m * 2 ^ more = F at *
    have hdm : n * (F / n) + F % n = F := Nat.div_add_mod F n
    generalize F / n = f at *
    generalize F % n = g at *
    by_cases hc : up + 1 ≤ q + dn
    · obtain ⟨v, hv⟩ : ∃ v, q + dn = v + 1 + up := ⟨q + dn - (up + 1), by omega⟩
      rw [hv, Nat.pow_add, Nat.pow_succ, ← Nat.mul_assoc, ← Nat.mul_assoc] at h2 ⊢
      refine Nat.mul_le_mul_right _ ?_
      rw [Nat.mul_right_comm _ (2 ^ up)] at h2
      have h3 := Nat.le_of_mul_le_mul_right h2 (Nat.two_pow_pos up)
      generalize k * 2 ^ v = c at *
      have h4 : F ≤ c * n := by
        rw [Nat.mul_right_comm] at h3
        omega
      by_cases hg : g = 0
      · subst hg
        have : f ≤ c := by
          refine Nat.le_of_mul_le_mul_right (c := n) ?_ hn0
          rw [Nat.mul_comm f]; omega
        simp; omega
      · have : f < c := by
          refine Nat.lt_of_mul_lt_mul_right (a := n) ?_
          rw [Nat.mul_comm f]; omega
        have hb : (g != 0) = true := by simpa using hg
        rw [hb]
        simp; omega
    · exfalso
      have h3 : k * 2 ^ (q + dn) ≤ k * 2 ^ up := Nat.mul_le_mul_left _ (Nat.pow_le_pow_right (by decide) (by omega))
      have h4 := Nat.le_trans h2 (Nat.mul_le_mul_right n h3)
      rw [Nat.mul_right_comm k] at h4
      have h5 := Nat.le_of_mul_le_mul_right h4 (Nat.two_pow_pos up)
      have h6 : k * n ≤ 9007199254740992 * n := Nat.mul_le_mul_right _ (by omega)
      have h7 : 0 < 9007199254740992 * n := by omega
      omega
  · obtain ⟨q, k, rfl, hq, hk⟩ := rv_form r
    rw [rv_block q k hq (by omega)] at h ⊢
    have h1 : k * 2 ^ q * (n * 2 ^ b) * 2 ^ (-(P + 1074)).toNat ≤ m * 2 ^ a * one * 2 ^ (-(P + 1074)).toNat := Nat.mul_le_mul_right _ h
    rw [key 0] at h1
    generalize (P + 1074).toNat = up at *
    generalize (-(P + 1074)).toNat = dn at *
    have h2 : k * (2 ^ q * 2 ^ dn) * n ≤ 2 * (m * 2 ^ more) * 2 ^ up := by
      refine Nat.le_of_mul_le_mul_right (c := 2 ^ b) ?_ (Nat.two_pow_pos b)
      refine Nat.le_trans (Nat.le_of_eq ?_) h1
      simp only [Nat.mul_assoc, Nat.mul_left_comm, Nat.mul_comm]
    rw [Nat.mul_assoc k, ← Nat.pow_add]
    rw [← Nat.pow_add] at h2
    clear h h1 key hexp
    generalize m * 2 ^ more = F at *
    have hdm : n * (F / n) + F % n = F := Nat.div_add_mod F n
    have hgl : F % n < n := Nat.mod_lt _ hn0
    have hf : 9007199254740992 ≤ F / n := (Nat.le_div_iff_mul_le hn0).2 hF
    generalize F / n = f at *
    generalize F % n = g at *
    by_cases hc : up + 1 ≤ q + dn
    · obtain ⟨v, hv⟩ : ∃ v, q + dn = v + 1 + up := ⟨q + dn - (up + 1), by omega⟩
      rw [hv, Nat.pow_add, Nat.pow_succ, ← Nat.mul_assoc, ← Nat.mul_assoc] at h2 ⊢
      refine Nat.mul_le_mul_right _ ?_
      rw [Nat.mul_right_comm _ (2 ^ up)] at h2
      have h3 := Nat.le_of_mul_le_mul_right h2 (Nat.two_pow_pos up)
      generalize k * 2 ^ v = c at *
      have h4 : c * n ≤ F := by
        rw [Nat.mul_right_comm] at h3
        omega
      have : c ≤ f := by
        apply Nat.le_of_not_lt
        intro hlt
        have h5 : (f + 1) * n ≤ c * n := Nat.mul_le_mul_right _ hlt
        rw [Nat.add_mul, Nat.one_mul, Nat.mul_comm f] at h5
        omega
      have := Nat.zero_le ((g != 0).toNat)
      omega
    · have h3 : k * 2 ^ (q + dn) ≤ k * 2 ^ up := Nat.mul_le_mul_left _ (Nat.pow_le_pow_right (by decide) (by omega))
      refine Nat.le_trans h3 (Nat.mul_le_mul_right _ ?_)
      have := Nat.zero_le ((g != 0).toNat)
      omega
/-- A quotient. -/
theorem quo_fin {x y : Nat} (hx : fin x) (hy : fin y) (h0 : 0 < rv (rg y)) : ∃ z, quoF x y = some z ∧ Rounds (rg z) (rv (rg x) * one) (rv (rg y)) ∧ sg z = (sg x ^^ sg y) ∧ z < 18446744073709551616 := by
  show ∃ z, ((Ieee.double.read x).quotient (52 + 2) (Ieee.double.read y)).map Ieee.double.write = some z ∧ _
  rw [read_finite x hx, read_finite y hy]
  have hn : mg (rg y) ≠ 0 := fun e => by unfold rv at h0; rw [e, Nat.zero_mul] at h0; omega
  have hm : mg (rg x) < 9007199254740992 := by unfold mg; split <;> omega
  simp only [Datum.quotient]
  rw [if_neg hn, Option.map_some, Format.write]
  refine ⟨_, rfl, ?_⟩
  obtain ⟨h1, h2, h3⟩ := near_parts (sg x ^^ sg y) (2 * (mg (rg x) <<< (52 + 2 + (mg (rg y)).log2 - (mg (rg x)).log2) / mg (rg y)) + (mg (rg x) <<< (52 + 2 + (mg (rg y)).log2 - (mg (rg x)).log2) % mg (rg y) != 0).toNat) ((-1074 : Int) + (pl (rg x) : Nat) - ((-1074 : Int) + (pl (rg y) : Nat)) - ((52 + 2 + (mg (rg y)).log2 - (mg (rg x)).log2 : Nat) : Int) - 1)
  refine ⟨?_, h2, h3⟩
  rw [h1, Nat.shiftLeft_eq]
  exact quo_digits hn hm
end Go.Proofs.Ytgmmdhefcijgeaa
