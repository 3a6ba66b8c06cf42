/-
  Plain mathematics: numbers that are told by few bits: whole numbers of a 4096th.
-/
import Derived.Test.YtgmmdhefcijgeaaWhole
namespace Go.Proofs.Ytgmmdhefcijgeaa
open Go Ieee
set_option linter.unusedVariables false

def EV : Nat := 1062
/-- A 4096th, in units of the least number. -/
def V : Nat := 2 ^ EV
theorem V_pos : 0 < V := Nat.two_pow_pos EV
theorem one_V : one = V * 4096 := by
  unfold one V
  rw [show (4096 : Nat) = 2 ^ 12 by decide, ← Nat.pow_add]
  exact congrArg (fun k => 2 ^ k) (show E0 = EV + 12 from rfl)
structure D (x : Nat) (a : Int) : Prop where
  fin : fin x
  kv : kv x = a * (V : Int)
  small : x < 18446744073709551616
theorem V_posI : (0 : Int) < (V : Int) := by exact_mod_cast V_pos
theorem D.rv {x : Nat} {a : Int} (h : D x a) : rv (rg x) = a.natAbs * V := by
  rw [← kv_abs, h.kv, Int.natAbs_mul, Int.natAbs_natCast]
theorem D.neg {x : Nat} {a : Int} (h : D x a) (ha : a < 0) : sg x = true := by
  have h1 := h.kv
  unfold Proofs.Ytgmmdhefcijgeaa.kv at h1
  cases hs : sg x with
  | true => rfl
  | false =>
    exfalso
    rw [hs] at h1
    have : a * (V : Int) < 0 := Int.mul_neg_of_neg_of_pos ha V_posI
    simp at h1
    omega
theorem D.pos {x : Nat} {a : Int} (h : D x a) (ha : 0 < a) : sg x = false := by
  have h1 := h.kv
  unfold Proofs.Ytgmmdhefcijgeaa.kv at h1
  cases hs : sg x with
  | false => rfl
  | true =>
    exfalso
    rw [hs] at h1
    have : 0 < a * (V : Int) := Int.mul_pos ha V_posI
    simp at h1
    omega
theorem rung_V (m : Nat) (hm : m < 9007199254740992) : ∃ r, r < 9218868437227405312 ∧ Proofs.Ytgmmdhefcijgeaa.rv r = m * V := exists_rung m EV hm (by decide)
theorem Sum.dy {z : Nat} {N : Int} {s : Bool} (h : Sum z N s) (c : Int) (hc : c.natAbs < 9007199254740992) (e : N = c * (V : Int)) : D z c := by
  obtain ⟨r, hr, hv⟩ := rung_V c.natAbs hc
  obtain ⟨h1, h2, _⟩ := h.is hr (by rw [e, Int.natAbs_mul, Int.natAbs_natCast, hv])
  exact ⟨h1, h2.trans e, h.small⟩
theorem D_add {x y : Nat} {a b : Int} (hx : D x a) (hy : D y b) (hc : (a + b).natAbs < 9007199254740992) : ∃ z, addF x y = some z ∧ D z (a + b) := by
  obtain ⟨z, h1, h2⟩ := add_fin hx.fin hy.fin
  exact ⟨z, h1, h2.dy (a + b) hc (by rw [hx.kv, hy.kv, Int.add_mul])⟩
theorem D_sub {x y : Nat} {a b : Int} (hx : D x a) (hy : D y b) (hc : (a - b).natAbs < 9007199254740992) : ∃ z, subF x y = some z ∧ D z (a - b) := by
  obtain ⟨z, h1, h2⟩ := sub_fin hx.fin hy.fin
  exact ⟨z, h1, h2.dy (a - b) hc (by rw [hx.kv, hy.kv, Int.sub_mul])⟩
theorem D_int (n : Int) (hn : (n * 4096).natAbs < 9007199254740992) : D (floatOfInt .f64 n) (n * 4096) := by
  obtain ⟨z, h1, h2⟩ := int_fin n
  have : floatOfInt .f64 n = z := h1
  rw [this]
  refine h2.dy (n * 4096) hn ?_
  have hv : ((V * 4096 : Nat) : Int) = 4096 * (V : Int) := by omega
  rw [one_V, hv, Int.mul_assoc]
theorem signed_prod {x y z : Nat} {a b c : Int} (hx : D x a) (hy : D y b) (hs : sg z = (sg x ^^ sg y)) (hr : Proofs.Ytgmmdhefcijgeaa.rv (rg z) = c.natAbs * V) (hcp : 0 < c → 0 < a * b) (hcn : c < 0 → a * b < 0) : Proofs.Ytgmmdhefcijgeaa.kv z = c * (V : Int) := by
  have key : (c = 0 ∨ sg z = decide (c < 0)) := by
    rcases Int.lt_trichotomy c 0 with h | h | h
    · right
      rw [hs]
      have hab := hcn h
      rcases Int.lt_trichotomy a 0 with h1 | h1 | h1
      · have hb : 0 < b := by
          apply Int.lt_of_not_ge; intro hb
          have := Int.mul_nonneg_of_nonpos_of_nonpos (Int.le_of_lt h1) hb
          omega
        rw [hx.neg h1, hy.pos hb]; simp [h]
      · subst h1; simp at hab
      · have hb : b < 0 := by
          apply Int.lt_of_not_ge; intro hb
          have := Int.mul_nonneg (Int.le_of_lt h1) hb
          omega
        rw [hx.pos h1, hy.neg hb]; simp [h]
    · exact .inl h
    · right
      rw [hs]
      have hab := hcp h
      rcases Int.lt_trichotomy a 0 with h1 | h1 | h1
      · have hb : b < 0 := by
          apply Int.lt_of_not_ge; intro hb
          have := Int.mul_nonpos_of_nonpos_of_nonneg (Int.le_of_lt h1) hb
          omega
        rw [hx.neg h1, hy.neg hb]; simp; omega
      · subst h1; simp at hab
      · have hb : 0 < b := by
          apply Int.lt_of_not_ge; intro hb
          have := Int.mul_nonpos_of_nonneg_of_nonpos (Int.le_of_lt h1) hb
          omega
        rw [hx.pos h1, hy.pos hb]; simp; omega
  unfold Proofs.Ytgmmdhefcijgeaa.kv
  rw [hr]
  rcases key with h | h
  · subst h; simp
  · rw [h]
    by_cases hc : c < 0
    · simp only [hc, decide_true, if_true]
      rw [Int.natCast_mul, ← Int.neg_mul]
      congr 1; omega
    · simp only [hc, decide_false, Bool.false_eq_true, if_false]
      rw [Int.natCast_mul]
      congr 1; omega
theorem D_mul {x y : Nat} {a b c : Int} (hx : D x a) (hy : D y b) (hc : c.natAbs < 9007199254740992) (e : a * b = c * 4096) : ∃ z, mulF x y = some z ∧ D z c := by
  obtain ⟨z, h1, h2, h3, h4⟩ := mul_fin hx.fin hy.fin
  obtain ⟨r, hr, hv⟩ := rung_V c.natAbs hc
  have ee : a.natAbs * b.natAbs = c.natAbs * 4096 := by rw [← Int.natAbs_mul, e, Int.natAbs_mul]; rfl
  have hz : rg z = r := h2.exact (Nat.le_of_lt hr) (by
    rw [hx.rv, hy.rv, hv, one_V]
    calc a.natAbs * V * (b.natAbs * V) = a.natAbs * b.natAbs * (V * V) := by simp only [Nat.mul_assoc, Nat.mul_left_comm]
      _ = c.natAbs * 4096 * (V * V) := by rw [ee]
      _ = c.natAbs * V * (V * 4096) := by simp only [Nat.mul_assoc, Nat.mul_left_comm, Nat.mul_comm])
  refine ⟨z, h1, ⟨?_, ?_, h4⟩⟩
  · unfold Proofs.Ytgmmdhefcijgeaa.fin; rw [hz]; exact hr
  · exact signed_prod hx hy h3 (by rw [hz, hv]) (fun h => by omega) (fun h => by omega)
theorem D_quo {x y : Nat} {a b c : Int} (hx : D x a) (hy : D y b) (hb : 0 < b) (hc : c.natAbs < 9007199254740992) (e : a * 4096 = c * b) : ∃ z, quoF x y = some z ∧ D z c := by
  have hy0 : 0 < Proofs.Ytgmmdhefcijgeaa.rv (rg y) := by rw [hy.rv]; exact Nat.mul_pos (by omega) V_pos
  obtain ⟨z, h1, h2, h3, h4⟩ := quo_fin hx.fin hy.fin hy0
  obtain ⟨r, hr, hv⟩ := rung_V c.natAbs hc
  have ee : a.natAbs * 4096 = c.natAbs * b.natAbs := by rw [← Int.natAbs_mul, ← e, Int.natAbs_mul]; rfl
  have hz : rg z = r := h2.exact (Nat.le_of_lt hr) (by
    rw [hx.rv, hy.rv, hv, one_V]
    calc a.natAbs * V * (V * 4096) = a.natAbs * 4096 * (V * V) := by simp only [Nat.mul_assoc, Nat.mul_left_comm, Nat.mul_comm]
      _ = c.natAbs * b.natAbs * (V * V) := by rw [ee]
      _ = c.natAbs * V * (b.natAbs * V) := by simp only [Nat.mul_assoc, Nat.mul_left_comm])
  have hpos : 0 < c → 0 < a * b := fun h => by
    have : 0 < c * b := Int.mul_pos h hb
    exact Int.mul_pos (by omega) hb
  have hneg : c < 0 → a * b < 0 := fun h => by
    have : c * b < 0 := Int.mul_neg_of_neg_of_pos h hb
    exact Int.mul_neg_of_neg_of_pos (by omega) hb
  refine ⟨z, h1, ⟨?_, ?_, h4⟩⟩
  · unfold Proofs.Ytgmmdhefcijgeaa.fin; rw [hz]; exact hr
  · exact signed_prod hx hy h3 (by rw [hz, hv]) hpos hneg
theorem D_order {x y : Nat} {a b : Int} (hx : D x a) (hy : D y b) : od x y = some (compare a b) := by
  rw [od_fin hx.fin hy.fin, hx.kv, hy.kv]
  exact congrArg some (compare_mul' a b EV)
theorem D_zero : D 0 0 := ⟨by unfold Proofs.Ytgmmdhefcijgeaa.fin; decide, by unfold Proofs.Ytgmmdhefcijgeaa.kv; rw [show rg 0 = 0 by decide, rv_zero]; simp, by decide⟩
theorem D_unsig {x : Nat} {a : Int} (h : D x a) : D (unsig x) a := by
  unfold unsig
  rw [D_order h D_zero]
  by_cases ha : a = 0
  · subst ha; exact D_zero
  · have : (some (compare a 0) == some Ordering.eq) = false := by
      have : compare a 0 ≠ .eq := fun e => ha (Int.compare_eq_eq.1 e)
      simpa using this
    rw [this]; exact h
theorem D_wh {x : Nat} {n : Int} (h : D x (n * 4096)) : wh x = n.natAbs ∧ rest x = 0 := by
  unfold wh rest
  have : (n * 4096).natAbs = n.natAbs * 4096 := by rw [Int.natAbs_mul]; rfl
  rw [h.rv, this, one_V, show n.natAbs * 4096 * V = n.natAbs * (V * 4096) by rw [Nat.mul_assoc, Nat.mul_comm 4096]]
  exact ⟨Nat.mul_div_cancel _ (Nat.mul_pos V_pos (by decide)), Nat.mul_mod_left _ _⟩
theorem D_int_sign {x : Nat} {n : Int} (h : D x (n * 4096)) : (if sg x then -(wh x : Int) else (wh x : Int)) = n := by
  rw [(D_wh h).1]
  rcases Int.lt_trichotomy n 0 with hn | hn | hn
  · rw [h.neg (by omega)]; simp; omega
  · subst hn; simp
  · rw [h.pos (by omega)]; simp; omega
theorem D_toInt {x : Nat} {n : Int} (h : D x (n * 4096)) {k : IntKind} (h1 : k.min ≤ n) (h2 : n ≤ k.max) : floatToIntVal .f64 x k = some n := by
  have := toVal_fin h.fin (k := k) (by rw [D_int_sign h]; exact h1) (by rw [D_int_sign h]; exact h2)
  rw [D_int_sign h] at this
  exact this
/-- A whole number told, with its sign. -/
theorem word_D {z M : Nat} {s : Bool} (h : Rounds (rg z) (M * one) 1 ∧ sg z = s ∧ z < 18446744073709551616) (hM : M * 4096 < 9007199254740992) : D z ((if s then -(M : Int) else (M : Int)) * 4096) := by
  obtain ⟨h1, h2, h3⟩ := h
  obtain ⟨r, hr, hv⟩ := rung_V (M * 4096) hM
  have hz : rg z = r := h1.exact (Nat.le_of_lt hr) (by rw [hv, one_V, Nat.mul_one, Nat.mul_assoc M 4096, Nat.mul_comm 4096])
  refine ⟨by unfold Proofs.Ytgmmdhefcijgeaa.fin; rw [hz]; exact hr, ?_, h3⟩
  unfold Proofs.Ytgmmdhefcijgeaa.kv
  rw [hz, hv, h2]
  cases s <;> simp [Int.natCast_mul, Int.neg_mul]
theorem D_even {x : Nat} {n : Int} (h : D x (n * 4096)) (hn : (n * 4096).natAbs < 9007199254740992) : ∃ z, FloatKind.f64.encode ((FloatKind.f64.decode x).integral .even) = z ∧ D z (n * 4096) := by
  obtain ⟨z, h1, h2, h3, h4⟩ := even_fin h.fin
  refine ⟨z, h1, ?_⟩
  have he : evn x = n.natAbs := by
    unfold evn
    rw [(D_wh h).1, (D_wh h).2, if_neg (by have := one_pos; omega)]; rfl
  rw [he] at h2
  have hd := word_D ⟨h2, h3, h4⟩ (by rw [Int.natAbs_mul] at hn; exact hn)
  rw [← (D_wh h).1, D_int_sign h] at hd
  exact hd
end Go.Proofs.Ytgmmdhefcijgeaa
