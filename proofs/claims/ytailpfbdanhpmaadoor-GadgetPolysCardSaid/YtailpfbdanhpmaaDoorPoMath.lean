/-
  Mathematics of polynomials as lists: without noughts at the end; products.
-/
import Derived.Test.YtailpfbdanhpmaaDoorBH
namespace Go.Proofs.YtailpfbdanhpmaaDoor
open F Flow Go.RowKit
set_option linter.unusedVariables false

/-- How many coefficients are left without the noughts at the end. -/
def tl (F : Nat → Int) : Nat → Nat
  | 0 => 0
  | n + 1 => if F n = 0 then tl F n else n + 1
theorem tl_le (F : Nat → Int) : ∀ n, tl F n ≤ n
  | 0 => Nat.le_refl _
  | n + 1 => by
    rw [tl]
    split
    · exact Nat.le_succ_of_le (tl_le F n)
    · exact Nat.le_refl _
theorem tl_zero_of (F : Nat → Int) : ∀ n k, tl F n ≤ k → k < n → F k = 0
  | 0, k, _, h => absurd h (Nat.not_lt_zero _)
  | n + 1, k, h1, h2 => by
    rw [tl] at h1
    split at h1
    · by_cases e : k = n
      · subst e; assumption
      · exact tl_zero_of F n k h1 (by omega)
    · omega
theorem tl_last (F : Nat → Int) : ∀ n, 0 < tl F n → F (tl F n - 1) ≠ 0
  | 0, h => absurd h (Nat.not_lt_zero _)
  | n + 1, h => by
    rw [tl] at h ⊢
    split
    · rename_i e
      rw [if_pos e] at h
      exact tl_last F n h
    · rename_i e
      exact e
theorem tl_congr {F G : Nat → Int} : ∀ n, (∀ k, k < n → F k = G k) → tl F n = tl G n
  | 0, _ => rfl
  | n + 1, h => by rw [tl, tl, h n (by omega), tl_congr n (fun k hk => h k (by omega))]
/-- If all behind a place are nought, it is enough to look up to there. -/
theorem tl_cut {F : Nat → Int} {m : Nat} : ∀ n, m ≤ n → (∀ k, m ≤ k → k < n → F k = 0) → tl F n = tl F m
  | 0, h, _ => by obtain rfl : m = 0 := by omega
                  rfl
  | n + 1, h, hz => by
    by_cases e : m = n + 1
    · rw [e]
    · rw [tl, if_pos (hz n (by omega) (by omega)), tl_cut n (by omega) (fun k h1 h2 => hz k h1 (by omega))]
theorem tl_full {F : Nat → Int} {n : Nat} (h : 0 < n → F (n - 1) ≠ 0) : tl F n = n := by
  cases n with
  | zero => rfl
  | succ n => rw [tl, if_neg (by simpa using h (by omega))]
theorem tl_tl (F : Nat → Int) (n : Nat) : tl F (tl F n) = tl F n := tl_full (fun h => tl_last F n h)
theorem pf_cut {x : Int} {F : Nat → Int} {m : Nat} : ∀ n, m ≤ n → (∀ k, m ≤ k → k < n → F k = 0) → pf x F n = pf x F m
  | 0, h, _ => by obtain rfl : m = 0 := by omega
                  rfl
  | n + 1, h, hz => by
    by_cases e : m = n + 1
    · rw [e]
    · rw [pf, hz n (by omega) (by omega), Int.zero_mul, Int.add_zero, pf_cut n (by omega) (fun k h1 h2 => hz k h1 (by omega))]
theorem pf_tl (x : Int) (F : Nat → Int) (n : Nat) : pf x F (tl F n) = pf x F n := (pf_cut n (tl_le F n) (tl_zero_of F n)).symm
/-- A product's coefficients, of so many of the first's. -/
def cs (a b : Nat → Int) (nb : Nat) : Nat → Nat → Int
  | 0, _ => 0
  | i + 1, k => cs a b nb i k + if i ≤ k ∧ k < i + nb then a i * b (k - i) else 0
theorem pf_shift (x : Int) (b : Nat → Int) (nb i : Nat) (c : Int) : ∀ n, i + nb ≤ n → pf x (fun k => if i ≤ k ∧ k < i + nb then c * b (k - i) else 0) n = c * x ^ i * pf x b nb := by
  intro n hn
  rw [pf_cut n hn (fun k h1 h2 => by show (if i ≤ k ∧ k < i + nb then c * b (k - i) else 0) = 0; rw [if_neg (by omega)])]
  clear hn
  induction nb with
  | zero =>
    rw [Nat.add_zero, pf]
    have : ∀ m, m ≤ i → pf x (fun k => if i ≤ k ∧ k < i then c * b (k - i) else 0) m = 0 := fun m => by
      induction m with
      | zero => intro _; rfl
      | succ m ih => intro h; rw [pf, ih (by omega), if_neg (by omega)]; simp
    rw [this i (Nat.le_refl _)]
    simp
  | succ nb ih =>
    rw [← Nat.add_assoc, pf, pf]
    have e : pf x (fun k => if i ≤ k ∧ k < i + nb + 1 then c * b (k - i) else 0) (i + nb) = pf x (fun k => if i ≤ k ∧ k < i + nb then c * b (k - i) else 0) (i + nb) := by
      have : ∀ m, m ≤ i + nb → pf x (fun k => if i ≤ k ∧ k < i + nb + 1 then c * b (k - i) else 0) m = pf x (fun k => if i ≤ k ∧ k < i + nb then c * b (k - i) else 0) m := fun m => by
        induction m with
        | zero => intro _; rfl
        | succ m ih2 =>
          intro h
          rw [pf, pf, ih2 (by omega)]
          congr 2
          by_cases h1 : i ≤ m
          · rw [if_pos (by omega), if_pos (by omega)]
          · rw [if_neg (by omega), if_neg (by omega)]
      exact this _ (Nat.le_refl _)
    rw [e, ih, if_pos (by omega), show i + nb - i = nb by omega, Int.pow_add]
    generalize pf x b nb = B
    generalize b nb = y
    generalize x ^ i = X
    generalize x ^ nb = Y
    grind
/-- A product's value is the values' product. -/
theorem pf_cs (x : Int) (a b : Nat → Int) (nb : Nat) : ∀ na n, na + nb ≤ n + 1 → (na = 0 ∨ na + nb ≤ n + 1) → (nb = 0 → True) → pf x (cs a b nb na) n = pf x a na * pf x b nb
  | 0, n, _, _, _ => by
    have : (cs a b nb 0) = fun _ => 0 := by funext k; rfl
    rw [this, pf_zero, pf, Int.zero_mul]
  | i + 1, n, h, _, _ => by
    have e : cs a b nb (i + 1) = fun k => cs a b nb i k + (fun k => if i ≤ k ∧ k < i + nb then a i * b (k - i) else 0) k := by funext k; rfl
    rw [e, pf_add, pf_cs x a b nb i n (by omega) (.inr (by omega)) (fun _ => trivial), pf_shift x b nb i (a i) n (by omega), pf]
    generalize pf x a i = A
    generalize pf x b nb = B
    generalize x ^ i = X
    grind
theorem cs_zero {a b : Nat → Int} {nb : Nat} : ∀ {na k}, na + nb ≤ k + 1 → (na = 0 ∨ nb = 0 ∨ na + nb ≤ k + 1) → cs a b nb na k = 0
  | 0, _, _, _ => rfl
  | i + 1, k, h, _ => by
    rw [cs, cs_zero (na := i) (by omega) (.inr (.inr (by omega))), if_neg (by omega), Int.add_zero]
/-- The last coefficient of a product. -/
theorem cs_top {a b : Nat → Int} {na nb : Nat} (ha : 0 < na) (hb : 0 < nb) : cs a b nb na (na + nb - 2) = a (na - 1) * b (nb - 1) := by
  obtain ⟨i, rfl⟩ : ∃ i, na = i + 1 := ⟨na - 1, by omega⟩
  rw [cs, cs_zero (by omega) (.inr (.inr (by omega))), if_pos (by omega), Int.zero_add, show i + 1 + nb - 2 - i = nb - 1 by omega, show i + 1 - 1 = i by omega]
end Go.Proofs.YtailpfbdanhpmaaDoor
