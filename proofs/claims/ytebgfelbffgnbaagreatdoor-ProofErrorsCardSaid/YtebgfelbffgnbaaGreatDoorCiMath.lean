/-
  Mathematics of circuits: whether one may be, how many elements all has.
-/
import Derived.Lib.BitFns
namespace Go.Proofs.YtebgfelbffgnbaaGreatDoor
set_option linter.unusedVariables false

/-- Is a number from 1 to another one, where it is used, else 0? -/
def inside (n : Int) (is : Bool) (most : Int) : Bool := if is then decide (1 ≤ n) && decide (n ≤ most) else decide (n = 0)
/-- How many pieces of so many. -/
def pieces (n c : Nat) : Nat := (n + c - 1) / c
theorem pieces_le (n : Nat) {c : Nat} (hc : 0 < c) : pieces n c ≤ n := by
  unfold pieces
  cases n with
  | zero => rw [Nat.div_eq_of_lt (by omega)]; exact Nat.le_refl _
  | succ n =>
    have : (n + 1 + c - 1) / c < n + 2 := by
      rw [Nat.div_lt_iff_lt_mul hc]
      have : n * 1 ≤ n * c := Nat.mul_le_mul_left _ hc
      rw [Nat.add_mul]
      omega
    omega
/-- Counting by the piece: where so many are behind, is one more begun? -/
theorem pieces_lt (n j : Nat) {c : Nat} (hc : 0 < c) : j * c < n ↔ j < pieces n c := by
  unfold pieces
  rw [Nat.lt_div_iff_mul_lt hc]
  constructor <;> intro h <;> omega
/-- A circuit: its kind, field, bits, length, weight, chunk. -/
structure Ci where
  k : Int
  f : Int
  b : Int
  l : Int
  w : Int
  c : Int
/-- Are its numbers in their ranges? -/
def Ci.fit (x : Ci) : Bool := inside x.b (x.k == 2 || x.k == 3) 32 && inside x.l (decide (3 ≤ x.k)) 64 && inside x.w (x.k == 5) x.l && inside x.c (decide (3 ≤ x.k)) 16
def Ci.inN (x : Ci) : Nat := if x.k = 1 then 1 else if x.k = 2 then x.b.toNat else if x.k = 3 then x.b.toNat * x.l.toNat else if x.k = 4 then x.l.toNat else x.l.toNat + Lib.bitLen x.w.toNat
def Ci.callsN (x : Ci) : Nat := if x.k = 1 then 1 else if x.k = 2 then x.b.toNat else pieces x.inN x.c.toNat
def Ci.code (x : Ci) : Int := if x.f = 1 ∨ x.f = 2 then (if 1 ≤ x.k ∧ x.k ≤ 5 then (if x.fit = true then (if 511 < x.callsN then 5 else 0) else 6) else 10) else 7
/-- Its numbers, as they are where they fit. -/
structure Ci.Fits (x : Ci) : Prop where
  k1 : 1 ≤ x.k
  k5 : x.k ≤ 5
  b : (x.k = 2 ∨ x.k = 3) → 1 ≤ x.b ∧ x.b ≤ 32
  b0 : ¬ (x.k = 2 ∨ x.k = 3) → x.b = 0
  l : 3 ≤ x.k → 1 ≤ x.l ∧ x.l ≤ 64
  l0 : ¬ 3 ≤ x.k → x.l = 0
  w : x.k = 5 → 1 ≤ x.w ∧ x.w ≤ x.l
  w0 : x.k ≠ 5 → x.w = 0
  c : 3 ≤ x.k → 1 ≤ x.c ∧ x.c ≤ 16
  c0 : ¬ 3 ≤ x.k → x.c = 0
theorem Ci.fits {x : Ci} (h1 : 1 ≤ x.k) (h5 : x.k ≤ 5) (h : x.fit = true) : x.Fits := by
  unfold Ci.fit at h
  simp only [Bool.and_eq_true] at h
  obtain ⟨⟨⟨hb, hl⟩, hw⟩, hc⟩ := h
  unfold inside at hb hl hw hc
  refine ⟨h1, h5, fun e => ?_, fun e => ?_, fun e => ?_, fun e => ?_, fun e => ?_, fun e => ?_, fun e => ?_, fun e => ?_⟩
  · rw [if_pos (by simpa using e)] at hb; simpa using hb
  · rw [if_neg (by simpa using e)] at hb; simpa using hb
  · rw [if_pos (by simpa using e)] at hl; simpa using hl
  · rw [if_neg (by simpa using e)] at hl; simpa using hl
  · rw [if_pos (by simpa using e)] at hw; simpa using hw
  · rw [if_neg (by simpa using e)] at hw; simpa using hw
  · rw [if_pos (by simpa using e)] at hc; simpa using hc
  · rw [if_neg (by simpa using e)] at hc; simpa using hc
theorem bitLen_le (n : Nat) (h : n < 2 ^ 64) : Lib.bitLen n ≤ 64 := by
  by_cases h0 : n = 0
  · subst h0; decide
  · have key : ∀ (m x : Nat), Lib.bitLenAux m x ≤ m := by
      intro m
      induction m with
      | zero => intro x; simp [Lib.bitLenAux]
      | succ m ih =>
        intro x
        simp only [Lib.bitLenAux]
        split
        · omega
        · have := ih (x / 2); omega
    exact key 64 n
theorem Ci.Fits.in_le {x : Ci} (h : x.Fits) : x.inN ≤ 2048 := by
  unfold Ci.inN
  by_cases h1 : x.k = 1
  · rw [if_pos h1]; omega
  · rw [if_neg h1]
    by_cases h2 : x.k = 2
    · rw [if_pos h2]; have := h.b (.inl h2); omega
    · rw [if_neg h2]
      have hk := h.k1
      have hl := h.l (by omega)
      by_cases h3 : x.k = 3
      · rw [if_pos h3]
        have hb := h.b (.inr h3)
        have : x.b.toNat * x.l.toNat ≤ 32 * 64 := Nat.mul_le_mul (by omega) (by omega)
        omega
      · rw [if_neg h3]
        split
        · omega
        · have := bitLen_le x.w.toNat (by
            by_cases h5 : x.k = 5
            · have := h.w h5; omega
            · have := h.w0 h5; omega)
          omega
end Go.Proofs.YtebgfelbffgnbaaGreatDoor
