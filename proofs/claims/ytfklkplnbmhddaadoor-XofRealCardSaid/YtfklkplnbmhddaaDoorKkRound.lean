/-
  A round, as the program goes about it, and as it is meant.
-/
import Derived.Test.YtfklkplnbmhddaaDoorKkMath
namespace Go.Proofs.YtfklkplnbmhddaaDoor
open Go Go.RowKit Flow
set_option linter.unusedVariables false

/-- The sums of the columns, so many numbers being looked at. -/
def sumsF (f : Nat → Nat) : Nat → Nat → Nat
  | 0 => fun _ => 0
  | k + 1 => upd (sumsF f k) (k % 5) (sumsF f k (k % 5) ^^^ f k)
def mixC (f : Nat → Nat) : Nat → Nat := fun i => f i ^^^ (sumsF f 25 ((i + 4) % 5) ^^^ rl (sumsF f 25 ((i + 1) % 5)) 1)
def turnsT : List Nat := [0, 1, 62, 28, 27, 36, 44, 6, 55, 20, 3, 10, 43, 25, 39, 41, 45, 15, 21, 8, 18, 2, 61, 56, 14]
def dest (i : Nat) : Nat := i / 5 + 5 * ((2 * (i % 5) + 3 * (i / 5)) % 5)
def movedF (f : Nat → Nat) : Nat → Nat → Nat
  | 0 => fun _ => 0
  | k + 1 => upd (movedF f k) (dest k) (rl (f k) (turnsT.getD k 0))
/-- What one has that another one hasn't. -/
def anF (a b : Nat) : Nat := a &&& (18446744073709551615 - b)
def mixR (f : Nat → Nat) : Nat → Nat := fun i => f i ^^^ anF (f (i - i % 5 + (i + 2) % 5)) (f (i - i % 5 + (i + 1) % 5))
def constsT : List Nat := [0x8000808b, 0x800000000000008b, 0x8000000000008089, 0x8000000000008003, 0x8000000000008002, 0x8000000000000080, 0x800a, 0x800000008000000a, 0x8000000080008081, 0x8000000000008080, 0x80000001, 0x8000000080008008]
def roundP (c : Nat) (f : Nat → Nat) : Nat → Nat := upd (mixR (movedF (mixC f) 25)) 0 (mixR (movedF (mixC f) 25) 0 ^^^ c)
def permP (f : Nat → Nat) : Nat → Nat → Nat
  | 0 => f
  | k + 1 => roundP (constsT.getD k 0) (permP f k)

-- as it is meant
def tr (j : Nat) : Nat := j / 5 + 5 * (j % 5)
def cR (a : Nat → Nat) (x : Nat) : Nat := a (x * 5) ^^^ a (x * 5 + 1) ^^^ a (x * 5 + 2) ^^^ a (x * 5 + 3) ^^^ a (x * 5 + 4)
def aR (a : Nat → Nat) : Nat → Nat := fun j => a j ^^^ cR a ((j / 5 + 4) % 5) ^^^ rl (cR a ((j / 5 + 1) % 5)) 1
/-- Where the way goes. -/
def way : Nat → Nat × Nat
  | 0 => (1, 0)
  | t + 1 => ((way t).2, (2 * (way t).1 + 3 * (way t).2) % 5)
def bR (a : Nat → Nat) : Nat → Nat → Nat
  | 0 => a
  | t + 1 => upd (bR a t) ((way t).1 * 5 + (way t).2) (rl (a ((way t).1 * 5 + (way t).2)) ((t + 1) * (t + 2) / 2 % 64))
def mR (b : Nat → Nat) : Nat → Nat → Nat
  | 0 => fun _ => 0
  | j + 1 => upd (mR b j) (j % 5 * 5 + (2 * (j / 5) + 3 * (j % 5)) % 5) (b j)
def oR (m : Nat → Nat) : Nat → Nat → Nat
  | 0 => fun _ => 0
  | j + 1 => upd (oR m j) (tr j) (m j ^^^ anF (m ((j / 5 + 2) % 5 * 5 + j % 5)) (m ((j / 5 + 1) % 5 * 5 + j % 5)))
def roundR (c : Nat) (f : Nat → Nat) : Nat → Nat :=
  upd (oR (mR (bR (aR (fun j => f (tr j))) 24) 25) 25) 0 (oR (mR (bR (aR (fun j => f (tr j))) 24) 25) 25 0 ^^^ c)

def Lim (f : Nat → Nat) : Prop := ∀ i, i < 25 → f i < 18446744073709551616
theorem lt25 {P : Nat → Prop} (h : P 0 ∧ P 1 ∧ P 2 ∧ P 3 ∧ P 4 ∧ P 5 ∧ P 6 ∧ P 7 ∧ P 8 ∧ P 9 ∧ P 10 ∧ P 11 ∧ P 12 ∧ P 13 ∧ P 14 ∧ P 15 ∧ P 16 ∧ P 17 ∧ P 18 ∧ P 19 ∧ P 20 ∧ P 21 ∧ P 22 ∧ P 23 ∧ P 24) : ∀ i, i < 25 → P i := by
  obtain ⟨h0, h1, h2, h3, h4, h5, h6, h7, h8, h9, h10, h11, h12, h13, h14, h15, h16, h17, h18, h19, h20, h21, h22, h23, h24⟩ := h
  intro i hi
  rcases (show i = 0 ∨ i = 1 ∨ i = 2 ∨ i = 3 ∨ i = 4 ∨ i = 5 ∨ i = 6 ∨ i = 7 ∨ i = 8 ∨ i = 9 ∨ i = 10 ∨ i = 11 ∨ i = 12 ∨ i = 13 ∨ i = 14 ∨ i = 15 ∨ i = 16 ∨ i = 17 ∨ i = 18 ∨ i = 19 ∨ i = 20 ∨ i = 21 ∨ i = 22 ∨ i = 23 ∨ i = 24 by omega) with rfl | rfl | rfl | rfl | rfl | rfl | rfl | rfl | rfl | rfl | rfl | rfl | rfl | rfl | rfl | rfl | rfl | rfl | rfl | rfl | rfl | rfl | rfl | rfl | rfl <;> assumption
theorem xor_lim {a b : Nat} (ha : a < 18446744073709551616) (hb : b < 18446744073709551616) : a ^^^ b < 18446744073709551616 := Nat.xor_lt_two_pow (n := 64) ha hb
theorem an_lim {a b : Nat} (ha : a < 18446744073709551616) : anF a b < 18446744073709551616 := Nat.lt_of_le_of_lt Nat.and_le_left ha
theorem upd_lim {f : Nat → Nat} {k v n : Nat} (h : ∀ i, i < n → f i < 18446744073709551616) (hv : v < 18446744073709551616) : ∀ i, i < n → upd f k v i < 18446744073709551616 := by
  intro i hi
  unfold upd
  split
  · exact hv
  · exact h i hi
theorem sums_lim {f : Nat → Nat} (h : Lim f) : ∀ k, k ≤ 25 → ∀ i, i < 5 → sumsF f k i < 18446744073709551616
  | 0, _, i, _ => by simp [sumsF]
  | k + 1, hk, i, hi => upd_lim (sums_lim h k (by omega)) (xor_lim (sums_lim h k (by omega) _ (by omega)) (h k (by omega))) i hi
theorem mixC_lim {f : Nat → Nat} (h : Lim f) : Lim (mixC f) := fun i hi =>
  xor_lim (h i hi) (xor_lim (sums_lim h 25 (by omega) _ (by omega)) (rl_lt _ _ (by omega) (sums_lim h 25 (by omega) _ (by omega))))
theorem turns_le (k : Nat) : turnsT.getD k 0 ≤ 62 := by
  by_cases h : k < 25
  · exact lt25 (P := fun k => turnsT.getD k 0 ≤ 62) (by decide) k h
  · have : turnsT.getD k 0 = 0 := by
      rw [List.getD_eq_getElem?_getD, List.getElem?_eq_none (by simp [turnsT]; omega)]; rfl
    omega
theorem moved_lim {f : Nat → Nat} (h : Lim f) : ∀ k, k ≤ 25 → ∀ i, i < 25 → movedF f k i < 18446744073709551616
  | 0, _, i, _ => by simp [movedF]
  | k + 1, hk, i, hi => upd_lim (moved_lim h k (by omega)) (rl_lt _ _ (by have := turns_le k; omega) (h k (by omega))) i hi
theorem mixR_lim {f : Nat → Nat} (h : Lim f) : Lim (mixR f) := fun i hi => xor_lim (h i hi) (an_lim (h _ (by omega)))
theorem consts_lim (k : Nat) : constsT.getD k 0 < 18446744073709551616 := by
  by_cases h : k < 12
  · rcases (show k = 0 ∨ k = 1 ∨ k = 2 ∨ k = 3 ∨ k = 4 ∨ k = 5 ∨ k = 6 ∨ k = 7 ∨ k = 8 ∨ k = 9 ∨ k = 10 ∨ k = 11 by omega) with rfl | rfl | rfl | rfl | rfl | rfl | rfl | rfl | rfl | rfl | rfl | rfl <;> decide
  · have : constsT.getD k 0 = 0 := by
      rw [List.getD_eq_getElem?_getD, List.getElem?_eq_none (by simp [constsT]; omega)]; rfl
    omega
theorem roundP_lim {c : Nat} {f : Nat → Nat} (hc : c < 18446744073709551616) (h : Lim f) : Lim (roundP c f) := by
  have h1 := mixR_lim (moved_lim (mixC_lim h) 25 (by omega))
  exact upd_lim h1 (xor_lim (h1 0 (by omega)) hc)
theorem permP_lim {f : Nat → Nat} (h : Lim f) : ∀ k, Lim (permP f k)
  | 0 => h
  | k + 1 => roundP_lim (consts_lim k) (permP_lim h k)

-- both are the same
theorem c_eq (f : Nat → Nat) : ∀ x, x < 5 → cR (fun j => f (tr j)) x = sumsF f 25 x := by
  intro x hx
  rcases (show x = 0 ∨ x = 1 ∨ x = 2 ∨ x = 3 ∨ x = 4 by omega) with rfl | rfl | rfl | rfl | rfl <;> simp [cR, tr, sumsF, upd]
theorem a_eq (f : Nat → Nat) (j : Nat) (hj : j < 25) : aR (fun j => f (tr j)) j = mixC f (tr j) := by
  have e1 : (tr j + 4) % 5 = (j / 5 + 4) % 5 := by unfold tr; omega
  have e2 : (tr j + 1) % 5 = (j / 5 + 1) % 5 := by unfold tr; omega
  unfold aR mixC
  rw [e1, e2, c_eq f _ (by omega), c_eq f _ (by omega), Nat.xor_assoc]
theorem upd_congr {f g : Nat → Nat} {n k v v' : Nat} (h : ∀ i, i < n → f i = g i) (hv : v = v') : ∀ i, i < n → upd f k v i = upd g k v' i := by
  intro i hi
  unfold upd
  rw [hv]
  split
  · rfl
  · exact h i hi
theorem way_lt : ∀ t, (way t).1 < 5 ∧ (way t).2 < 5
  | 0 => by decide
  | t + 1 => by have := way_lt t; exact ⟨this.2, Nat.mod_lt _ (by decide)⟩
theorem b_congr {a a' : Nat → Nat} (h : ∀ j, j < 25 → a j = a' j) : ∀ t, ∀ j, j < 25 → bR a t j = bR a' t j
  | 0 => h
  | t + 1 => upd_congr (b_congr h t) (by have := way_lt t; rw [h _ (by omega)])
theorem m_congr {a a' : Nat → Nat} (h : ∀ j, j < 25 → a j = a' j) : ∀ k, k ≤ 25 → ∀ j, j < 25 → mR a k j = mR a' k j
  | 0, _ => fun _ _ => rfl
  | k + 1, hk => upd_congr (m_congr h k (by omega)) (h k (by omega))
theorem o_congr {a a' : Nat → Nat} (h : ∀ j, j < 25 → a j = a' j) : ∀ k, k ≤ 25 → ∀ j, j < 25 → oR a k j = oR a' k j
  | 0, _ => fun _ _ => rfl
  | k + 1, hk => upd_congr (o_congr h k (by omega)) (by rw [h k (by omega), h _ (by omega), h _ (by omega)])
set_option maxRecDepth 100000 in
theorem m_eq (g : Nat → Nat) (h0 : g 0 < 18446744073709551616) : ∀ j, j < 25 → mR (bR (fun j => g (tr j)) 24) 25 j = movedF g 25 (tr j) := by
  refine lt25 ⟨?_, ?_⟩
  · show g 0 = rl (g 0) 0
    rw [rl_zero _ h0]
  · refine ⟨?_, ?_, ?_, ?_, ?_, ?_, ?_, ?_, ?_, ?_, ?_, ?_, ?_, ?_, ?_, ?_, ?_, ?_, ?_, ?_, ?_, ?_, ?_, ?_⟩ <;> kernel_rfl
set_option maxRecDepth 100000 in
theorem o_eq (m : Nat → Nat) : ∀ i, i < 25 → oR (fun j => m (tr j)) 25 i = mixR m i :=
  lt25 ⟨rfl, rfl, rfl, rfl, rfl, rfl, rfl, rfl, rfl, rfl, rfl, rfl, rfl, rfl, rfl, rfl, rfl, rfl, rfl, rfl, rfl, rfl, rfl, rfl, rfl⟩
theorem round_eq (c : Nat) (f : Nat → Nat) (h : Lim f) : ∀ i, i < 25 → roundR c f i = roundP c f i := by
  have h1 : ∀ j, j < 25 → aR (fun j => f (tr j)) j = mixC f (tr j) := a_eq f
  have h2 : ∀ j, j < 25 → mR (bR (aR (fun j => f (tr j))) 24) 25 j = movedF (mixC f) 25 (tr j) := fun j hj => by
    rw [m_congr (b_congr h1 24) 25 (by omega) j hj]
    exact m_eq (mixC f) (mixC_lim h 0 (by omega)) j hj
  have h3 : ∀ i, i < 25 → oR (mR (bR (aR (fun j => f (tr j))) 24) 25) 25 i = mixR (movedF (mixC f) 25) i := fun i hi => by
    rw [o_congr h2 25 (by omega) i hi]
    exact o_eq _ i hi
  have h4 := h3 0 (by omega)
  unfold roundR roundP
  generalize oR (mR (bR (aR (fun j => f (tr j))) 24) 25) 25 = A at h3 h4 ⊢
  generalize mixR (movedF (mixC f) 25) = B at h3 h4 ⊢
  exact upd_congr h3 (by rw [h4])
end Go.Proofs.YtfklkplnbmhddaaDoor
