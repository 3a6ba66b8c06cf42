import Derived.Test.YtpojhomccmfffaaDoorCiG
import Derived.Test.YtpojhomccmfffaaDoorCiH
import Derived.Test.YtpojhomccmfffaaDoorBE
import Derived.BigQuiet
/-
  How many elements all of a right circuit has, on both sides.
-/
namespace Go.Proofs.YtpojhomccmfffaaDoor
open Go.RowKit Flow
set_option linter.unusedVariables false
set_option linter.unusedSimpArgs false

/-- A circuit's numbers, the program's and the document's. -/
def cvl (x : Ci) : Value := .agg #[.int .u8 x.k, .int .u8 x.f, .int .i64 x.b, .int .i64 x.l, .int .i64 x.w, .int .i64 x.c]
def rvl (x : Ci) : Value := .agg #[.int .i64 x.k, .int .i64 x.f, .int .i64 x.b, .int .i64 x.l, .int .i64 x.w, .int .i64 x.c]
structure Ci.Good (x : Ci) : Prop where
  f : x.f = 1 ∨ x.f = 2
  fits : x.Fits
  calls : x.callsN ≤ 511
theorem Ci.good {x : Ci} (h : x.code = 0) : x.Good := by
  unfold Ci.code at h
  by_cases hf : x.f = 1 ∨ x.f = 2
  · rw [if_pos hf] at h
    by_cases hk : 1 ≤ x.k ∧ x.k ≤ 5
    · rw [if_pos hk] at h
      by_cases ht : x.fit = true
      · rw [if_pos ht] at h
        by_cases hc : 511 < x.callsN
        · rw [if_pos hc] at h; omega
        · exact ⟨hf, Ci.fits hk.1 hk.2 ht, by omega⟩
      · rw [if_neg ht] at h; omega
    · rw [if_neg hk] at h; omega
  · rw [if_neg hf] at h; omega
theorem Ci.Fits.fit {x : Ci} (h : x.Fits) : x.fit = true := by
  unfold Ci.fit inside
  have hk := h.k1
  have hk5 := h.k5
  have h5 : x.k = 1 ∨ x.k = 2 ∨ x.k = 3 ∨ x.k = 4 ∨ x.k = 5 := by omega
  rcases h5 with e | e | e | e | e
  · have b0 := h.b0 (by omega); have l0 := h.l0 (by omega); have w0 := h.w0 (by omega); have c0 := h.c0 (by omega)
    simp [e, b0, l0, w0, c0]
  · have b0 := h.b (by omega); have l0 := h.l0 (by omega); have w0 := h.w0 (by omega); have c0 := h.c0 (by omega)
    simp [e, b0, l0, w0, c0]
  · have b0 := h.b (by omega); have l0 := h.l (by omega); have w0 := h.w0 (by omega); have c0 := h.c (by omega)
    simp [e, b0, l0, w0, c0]
  · have b0 := h.b0 (by omega); have l0 := h.l (by omega); have w0 := h.w0 (by omega); have c0 := h.c (by omega)
    simp [e, b0, l0, w0, c0]
  · have b0 := h.b0 (by omega); have l0 := h.l (by omega); have w0 := h.w (by omega); have c0 := h.c (by omega)
    simp [e, b0, l0, w0, c0]
theorem Ci.Good.code {x : Ci} (h : x.Good) : x.code = 0 := by
  unfold Ci.code
  rw [if_pos h.f, if_pos ⟨h.fits.k1, h.fits.k5⟩, if_pos h.fits.fit, if_neg (by have := h.calls; omega)]
def Ci.outN (x : Ci) : Nat := if x.k = 1 ∨ x.k = 2 then 1 else x.l.toNat
def Ci.jointN (x : Ci) : Nat := if x.k = 1 then 0 else if x.k = 2 then 1 else if x.k = 3 then x.callsN else x.callsN + 1
def Ci.mostN (x : Ci) : Nat := if x.k = 2 ∨ x.k = 3 then 2 ^ x.b.toNat - 1 else 1
def Ci.arityN (x : Ci) : Nat := if x.k = 1 then 2 else if x.k = 2 then 1 else 2 * x.c.toNat
/-- Contracts of numbers of a circuit. -/
def NumBy (F : FuncId) (v : Value) (n : Nat) : Prop := ∀ w, Calls Tryd.prog F #[v] w fun e w' => e = .returned (.int .i64 (n : Int)) ∧ Below w.heap.size w w'
theorem right_any (x : Ci) (w : World) : Calls Tryd.prog 51 #[cvl x] w fun e w' => e = .returned (.bool (decide (x.code = 0))) ∧ Below w.heap.size w w' := by
  obtain ⟨k, f, b, l, W, c⟩ := x
  unfold cvl
  have hC := fun w => ccheck_any k f b l W c w
  have hd : ∀ z : Int, (z == 0) = decide (z = 0) := fun z => rfl
  generalize (Ci.mk k f b l W c).code = z at *
  by_cases h : z = 0
  · subst h
    replace hC := Lib.hid hC
    clear hd
    go_enter Tryd.func51, Tryd.ntmps51
    go_upto_region 1 with (fail)
    refine name_wp (fun w1 => Below w.heap.size w w1 ∧ w1.heap[w.heap.size]? = some (.cells #[.int .u8 k, .int .u8 f, .int .i64 b, .int .i64 l, .int .i64 W, .int .i64 c] 31 (0, 0))) ⟨(Below.refl _ _).alloc (Nat.le_refl _) _, alloc_at rfl⟩ ?_
    rintro w1 ⟨hb, k0⟩
    obtain ⟨c0, c1, c2, c3, c4, c5⟩ := blk6 k0
    go_wp2_with fail
    refine call_then (hC.out _) ?_
    intro w2 hb2
    replace hb := below_next hb hb.size hb2
    replace k0 := keeps hb2 k0
    clear hb2 c0 c1 c2 c3 c4 c5
    obtain ⟨c0, c1, c2, c3, c4, c5⟩ := blk6 k0
    go_wp2
    go_ret
    exact ⟨rfl, hb⟩
  · have h1 : (z == 0) = false := by simpa using h
    have h2 : decide (z = 0) = false := by simpa using h
    rw [h2]
    replace hC := Lib.hid hC
    clear hd h h2
    go_enter Tryd.func51, Tryd.ntmps51
    go_upto_region 1 with (fail)
    refine name_wp (fun w1 => Below w.heap.size w w1 ∧ w1.heap[w.heap.size]? = some (.cells #[.int .u8 k, .int .u8 f, .int .i64 b, .int .i64 l, .int .i64 W, .int .i64 c] 31 (0, 0))) ⟨(Below.refl _ _).alloc (Nat.le_refl _) _, alloc_at rfl⟩ ?_
    rintro w1 ⟨hb, k0⟩
    obtain ⟨c0, c1, c2, c3, c4, c5⟩ := blk6 k0
    go_wp2_with fail
    refine call_then (hC.out _) ?_
    intro w2 hb2
    replace hb := below_next hb hb.size hb2
    replace k0 := keeps hb2 k0
    clear hb2 c0 c1 c2 c3 c4 c5
    obtain ⟨c0, c1, c2, c3, c4, c5⟩ := blk6 k0
    go_wp2
    go_ret
    exact ⟨by first | rfl | simp [h1], hb⟩
theorem right_good {x : Ci} (h : x.Good) (w : World) : Calls Tryd.prog 51 #[cvl x] w fun e w' => e = .returned (.bool true) ∧ Below w.heap.size w w' := (right_any x w).mono fun e w' ⟨he, hb⟩ => ⟨by rw [he, decide_eq_true h.code], hb⟩
theorem out_any (x : Ci) (h : x.Good) : NumBy 20 (cvl x) x.outN := by
  intro w
  obtain ⟨k, f, b, l, W, c⟩ := x
  have hR := Lib.hid (right_good h)
  have hl := h.fits.l
  have hk : k = 1 ∨ k = 2 ∨ k = 3 ∨ k = 4 ∨ k = 5 := by have := h.fits.k1; have := h.fits.k5; simp only at *; omega
  unfold cvl at *
  simp only at hl
  rcases hk with rfl | rfl | rfl | rfl | rfl
  · rw [show (Ci.mk 1 f b l W c).outN = 1 by simp [Ci.outN]]
    clear hl h
    go_enter Tryd.func20, Tryd.ntmps20
    go_upto_region 1 with (fail)
    refine name_wp (fun w1 => Below w.heap.size w w1 ∧ w1.heap[w.heap.size]? = some (.cells #[.int .u8 1, .int .u8 f, .int .i64 b, .int .i64 l, .int .i64 W, .int .i64 c] 31 (0, 0))) ⟨(Below.refl _ _).alloc (Nat.le_refl _) _, alloc_at rfl⟩ ?_
    rintro w1 ⟨hb, k0⟩
    obtain ⟨c0, c1, c2, c3, c4, c5⟩ := blk6 k0
    go_wp2_with fail
    refine call_then (hR.out _) ?_
    intro w2 hb2
    replace hb := below_next hb hb.size hb2
    replace k0 := keeps hb2 k0
    clear hb2 c0 c1 c2 c3 c4 c5
    obtain ⟨c0, c1, c2, c3, c4, c5⟩ := blk6 k0
    go_wp2
    go_ret
    exact ⟨rfl, hb⟩
  · rw [show (Ci.mk 2 f b l W c).outN = 1 by simp [Ci.outN]]
    clear hl h
    go_enter Tryd.func20, Tryd.ntmps20
    go_upto_region 1 with (fail)
    refine name_wp (fun w1 => Below w.heap.size w w1 ∧ w1.heap[w.heap.size]? = some (.cells #[.int .u8 2, .int .u8 f, .int .i64 b, .int .i64 l, .int .i64 W, .int .i64 c] 31 (0, 0))) ⟨(Below.refl _ _).alloc (Nat.le_refl _) _, alloc_at rfl⟩ ?_
    rintro w1 ⟨hb, k0⟩
    obtain ⟨c0, c1, c2, c3, c4, c5⟩ := blk6 k0
    go_wp2_with fail
    refine call_then (hR.out _) ?_
    intro w2 hb2
    replace hb := below_next hb hb.size hb2
    replace k0 := keeps hb2 k0
    clear hb2 c0 c1 c2 c3 c4 c5
    obtain ⟨c0, c1, c2, c3, c4, c5⟩ := blk6 k0
    go_wp2
    go_ret
    exact ⟨rfl, hb⟩
  · rw [show ((Ci.mk 3 f b l W c).outN : Int) = l by have := hl (by omega); simp [Ci.outN]; omega]
    clear hl h
    go_enter Tryd.func20, Tryd.ntmps20
    go_upto_region 1 with (fail)
    refine name_wp (fun w1 => Below w.heap.size w w1 ∧ w1.heap[w.heap.size]? = some (.cells #[.int .u8 3, .int .u8 f, .int .i64 b, .int .i64 l, .int .i64 W, .int .i64 c] 31 (0, 0))) ⟨(Below.refl _ _).alloc (Nat.le_refl _) _, alloc_at rfl⟩ ?_
    rintro w1 ⟨hb, k0⟩
    obtain ⟨c0, c1, c2, c3, c4, c5⟩ := blk6 k0
    go_wp2_with fail
    refine call_then (hR.out _) ?_
    intro w2 hb2
    replace hb := below_next hb hb.size hb2
    replace k0 := keeps hb2 k0
    clear hb2 c0 c1 c2 c3 c4 c5
    obtain ⟨c0, c1, c2, c3, c4, c5⟩ := blk6 k0
    go_wp2
    go_ret
    exact ⟨rfl, hb⟩
  · rw [show ((Ci.mk 4 f b l W c).outN : Int) = l by have := hl (by omega); simp [Ci.outN]; omega]
    clear hl h
    go_enter Tryd.func20, Tryd.ntmps20
    go_upto_region 1 with (fail)
    refine name_wp (fun w1 => Below w.heap.size w w1 ∧ w1.heap[w.heap.size]? = some (.cells #[.int .u8 4, .int .u8 f, .int .i64 b, .int .i64 l, .int .i64 W, .int .i64 c] 31 (0, 0))) ⟨(Below.refl _ _).alloc (Nat.le_refl _) _, alloc_at rfl⟩ ?_
    rintro w1 ⟨hb, k0⟩
    obtain ⟨c0, c1, c2, c3, c4, c5⟩ := blk6 k0
    go_wp2_with fail
    refine call_then (hR.out _) ?_
    intro w2 hb2
    replace hb := below_next hb hb.size hb2
    replace k0 := keeps hb2 k0
    clear hb2 c0 c1 c2 c3 c4 c5
    obtain ⟨c0, c1, c2, c3, c4, c5⟩ := blk6 k0
    go_wp2
    go_ret
    exact ⟨rfl, hb⟩
  · rw [show ((Ci.mk 5 f b l W c).outN : Int) = l by have := hl (by omega); simp [Ci.outN]; omega]
    clear hl h
    go_enter Tryd.func20, Tryd.ntmps20
    go_upto_region 1 with (fail)
    refine name_wp (fun w1 => Below w.heap.size w w1 ∧ w1.heap[w.heap.size]? = some (.cells #[.int .u8 5, .int .u8 f, .int .i64 b, .int .i64 l, .int .i64 W, .int .i64 c] 31 (0, 0))) ⟨(Below.refl _ _).alloc (Nat.le_refl _) _, alloc_at rfl⟩ ?_
    rintro w1 ⟨hb, k0⟩
    obtain ⟨c0, c1, c2, c3, c4, c5⟩ := blk6 k0
    go_wp2_with fail
    refine call_then (hR.out _) ?_
    intro w2 hb2
    replace hb := below_next hb hb.size hb2
    replace k0 := keeps hb2 k0
    clear hb2 c0 c1 c2 c3 c4 c5
    obtain ⟨c0, c1, c2, c3, c4, c5⟩ := blk6 k0
    go_wp2
    go_ret
    exact ⟨rfl, hb⟩
end Go.Proofs.YtpojhomccmfffaaDoor

/-
  What one adds at most; numbers added; bits.
-/
namespace Go.Proofs.YtpojhomccmfffaaDoor
open Go.RowKit Flow F
set_option linter.unusedVariables false
set_option linter.unusedSimpArgs false

theorem pow_le32 {b : Nat} (h : b ≤ 32) : 2 ^ b ≤ 4294967296 := Nat.le_trans (Nat.pow_le_pow_right (by omega) h) (by decide)
theorem most_any (x : Ci) (h : x.Good) (w : World) : Calls Tryd.prog 93 #[cvl x] w fun e w' => e = .returned (.int .u64 (x.mostN : Int)) ∧ Below w.heap.size w w' := by
  obtain ⟨k, f, b, l, W, c⟩ := x
  have hR := Lib.hid (right_good h)
  have hbb := h.fits.b
  have hk : k = 1 ∨ k = 2 ∨ k = 3 ∨ k = 4 ∨ k = 5 := by have := h.fits.k1; have := h.fits.k5; simp only at *; omega
  unfold cvl at *
  by_cases h23 : k = 2 ∨ k = 3
  · have hb2 := hbb h23
    simp only at hb2
    obtain ⟨nb, rfl⟩ := Int.eq_ofNat_of_zero_le (show 0 ≤ b by omega)
    have e : (Ci.mk k f nb l W c).mostN = 2 ^ nb - 1 := by simp [Ci.mostN, h23]
    rw [e]
    have hp := pow_le32 (b := nb) (by omega)
    have hp1 := Nat.one_le_two_pow (n := nb)
    have hsh : ((1 : Int) * 2 ^ nb) = ((2 ^ nb : Nat) : Int) := by simp
    obtain ⟨X, hX⟩ : ∃ X, X = 2 ^ nb := ⟨_, rfl⟩
    rw [← hX] at hp hp1 hsh ⊢
    have hwr : IntKind.u64.wrap ((1 : Int) * 2 ^ nb) = (X : Int) := by rw [hsh, IntKind.wrap_u64]; omega
    have hwr2 : IntKind.u64.wrap ((2 : Int) ^ nb) = (X : Int) := by rw [← hwr]; simp
    have hwr3 : ((2 : Int) ^ nb) = (X : Int) := by rw [← hsh]; simp
    have hX1 : ((X - 1 : Nat) : Int) = (X : Int) - 1 := by omega
    rw [hX1]
    replace hX := Lib.hid hX
    clear hsh hX1 hk h e hbb
    rcases h23 with rfl | rfl
    · go_enter Tryd.func93, Tryd.ntmps93
      go_upto_region 1 with (fail)
      refine name_wp (fun w1 => Below w.heap.size w w1 ∧ w1.heap[w.heap.size]? = some (.cells #[.int .u8 2, .int .u8 f, .int .i64 (nb : Int), .int .i64 l, .int .i64 W, .int .i64 c] 31 (0, 0))) ⟨(Below.refl _ _).alloc (Nat.le_refl _) _, alloc_at rfl⟩ ?_
      rintro w1 ⟨hb, k0⟩
      obtain ⟨c0, c1, c2, c3, c4, c5⟩ := blk6 k0
      go_wp2_with fail
      refine call_then (hR.out _) ?_
      intro w2 hb2
      replace hb := below_next hb hb.size hb2
      replace k0 := keeps hb2 k0
      clear hb2 c0 c1 c2 c3 c4 c5
      obtain ⟨c0, c1, c2, c3, c4, c5⟩ := blk6 k0
      go_wp2
      go_ret
      exact ⟨rfl, hb⟩
    · go_enter Tryd.func93, Tryd.ntmps93
      go_upto_region 1 with (fail)
      refine name_wp (fun w1 => Below w.heap.size w w1 ∧ w1.heap[w.heap.size]? = some (.cells #[.int .u8 3, .int .u8 f, .int .i64 (nb : Int), .int .i64 l, .int .i64 W, .int .i64 c] 31 (0, 0))) ⟨(Below.refl _ _).alloc (Nat.le_refl _) _, alloc_at rfl⟩ ?_
      rintro w1 ⟨hb, k0⟩
      obtain ⟨c0, c1, c2, c3, c4, c5⟩ := blk6 k0
      go_wp2_with fail
      refine call_then (hR.out _) ?_
      intro w2 hb2
      replace hb := below_next hb hb.size hb2
      replace k0 := keeps hb2 k0
      clear hb2 c0 c1 c2 c3 c4 c5
      obtain ⟨c0, c1, c2, c3, c4, c5⟩ := blk6 k0
      go_wp2
      go_ret
      exact ⟨rfl, hb⟩
  · have e : (Ci.mk k f b l W c).mostN = 1 := by simp [Ci.mostN, h23]
    rw [e]
    have n2 : (k == 2) = false := by simp; omega
    have n3 : (k == 3) = false := by simp; omega
    have d2 : decide (k = 2) = false := by simp; omega
    have d3 : decide (k = 3) = false := by simp; omega
    clear hk h e hbb h23
    go_enter Tryd.func93, Tryd.ntmps93
    go_upto_region 1 with (fail)
    refine name_wp (fun w1 => Below w.heap.size w w1 ∧ w1.heap[w.heap.size]? = some (.cells #[.int .u8 k, .int .u8 f, .int .i64 b, .int .i64 l, .int .i64 W, .int .i64 c] 31 (0, 0))) ⟨(Below.refl _ _).alloc (Nat.le_refl _) _, alloc_at rfl⟩ ?_
    rintro w1 ⟨hb, k0⟩
    obtain ⟨c0, c1, c2, c3, c4, c5⟩ := blk6 k0
    go_wp2_with fail
    refine call_then (hR.out _) ?_
    intro w2 hb2
    replace hb := below_next hb hb.size hb2
    replace k0 := keeps hb2 k0
    clear hb2 c0 c1 c2 c3 c4 c5
    obtain ⟨c0, c1, c2, c3, c4, c5⟩ := blk6 k0
    go_wp2
    go_ret
    exact ⟨rfl, hb⟩
def Ci.measuredN (x : Ci) : Nat := if x.k = 4 then 1 else x.outN
theorem measured_any (x : Ci) (h : x.Good) : NumBy 53 (cvl x) x.measuredN := by
  intro w
  have hO := out_any x h
  unfold Ci.measuredN
  obtain ⟨k, f, b, l, W, c⟩ := x
  unfold cvl NumBy at *
  generalize (Ci.mk k f b l W c).outN = N at *
  replace hO := Lib.hid hO
  clear h
  by_cases h4 : k = 4
  · subst h4
    rw [if_pos rfl]
    go_enter Tryd.func53, Tryd.ntmps53
    go_upto_region 1 with (fail)
    refine name_wp (fun w1 => Below w.heap.size w w1 ∧ w1.heap[w.heap.size]? = some (.cells #[.int .u8 4, .int .u8 f, .int .i64 b, .int .i64 l, .int .i64 W, .int .i64 c] 31 (0, 0))) ⟨(Below.refl _ _).alloc (Nat.le_refl _) _, alloc_at rfl⟩ ?_
    rintro w1 ⟨hb, k0⟩
    obtain ⟨c0, c1, c2, c3, c4, c5⟩ := blk6 k0
    go_wp2
    go_ret
    exact ⟨rfl, hb⟩
  · rw [if_neg h4]
    have n4 : (k == 4) = false := by simpa using h4
    have d4 : decide (k = 4) = false := by simpa using h4
    clear h4
    go_enter Tryd.func53, Tryd.ntmps53
    go_upto_region 1 with (fail)
    refine name_wp (fun w1 => Below w.heap.size w w1 ∧ w1.heap[w.heap.size]? = some (.cells #[.int .u8 k, .int .u8 f, .int .i64 b, .int .i64 l, .int .i64 W, .int .i64 c] 31 (0, 0))) ⟨(Below.refl _ _).alloc (Nat.le_refl _) _, alloc_at rfl⟩ ?_
    rintro w1 ⟨hb, k0⟩
    obtain ⟨c0, c1, c2, c3, c4, c5⟩ := blk6 k0
    go_wp2_with fail
    refine call_then (hO.out _) ?_
    intro w2 hb2
    replace hb := below_next hb hb.size hb2
    replace k0 := keeps hb2 k0
    clear hb2 c0 c1 c2 c3 c4 c5
    obtain ⟨c0, c1, c2, c3, c4, c5⟩ := blk6 k0
    go_wp2
    go_ret
    exact ⟨rfl, hb⟩
/-- A sum of words. -/
def wsum : List Int → Int
  | l => l.foldl (fun s x => (s + x) % 18446744073709551616) 0
/-- A slice reads as words. -/
def WordsAt (w : World) (A : Option Addr) (zs : List Int) : Prop := ∀ k, k < zs.length → ∃ b o, A = some ⟨b, o, none⟩ ∧ w.cell? ⟨b, o + k, none⟩ = some (.int .u64 (zs.getD k 0))
def WordsOK (zs : List Int) : Prop := ∀ x, x ∈ zs → 0 ≤ x ∧ x < 18446744073709551616
theorem WordsOK.at_ {xs : List Int} (h : WordsOK xs) {k : Nat} (hk : k < xs.length) : 0 ≤ xs.getD k 0 ∧ xs.getD k 0 < 18446744073709551616 := by
  rw [List.getD_eq_getElem?_getD, List.getElem?_eq_getElem hk]
  exact h _ (List.getElem_mem hk)
theorem WordsAt.up {w w' : World} {A : Option Addr} {xs : List Int} (h : WordsAt w A xs) (hb : Below w.heap.size w w') : WordsAt w' A xs := fun k hk => by
  obtain ⟨b, o, e, hc⟩ := h k hk
  exact ⟨b, o, e, (hb.cell (World.block_lt_of_cell? _ _ hc)).trans hc⟩
theorem wsum_bound (l : List Int) : 0 ≤ wsum l ∧ wsum l < 18446744073709551616 := by
  rcases l.eq_nil_or_concat with rfl | ⟨l, x, rfl⟩
  · decide
  · unfold wsum
    rw [List.concat_eq_append, List.foldl_append]
    simp only [List.foldl_cons, List.foldl_nil]
    omega
theorem wsum_snoc (l : List Int) (x : Int) : wsum (l ++ [x]) = (wsum l + x) % 18446744073709551616 := by
  unfold wsum
  rw [List.foldl_append]
  rfl
theorem take_snocD {l : List Int} {k : Nat} (h : k < l.length) : l.take (k + 1) = l.take k ++ [l.getD k 0] := by
  rw [List.take_succ_eq_append_getElem h, List.getD_eq_getElem?_getD, List.getElem?_eq_getElem h]
  rfl
theorem added_any (zs : List Int) (A : Option Addr) (N c : Nat) (hN : zs.length = N) (hz : WordsOK zs) (hm : N ≤ maxLen) (w : World) (hA : WordsAt w A zs) : Calls Tryd.prog 59 #[.slice A N c] w fun e w' => e = .returned (.int .u64 (wsum zs)) ∧ Below w.heap.size w w' := by
  unfold maxLen at hm
  replace hA := Lib.hid hA
  go_enter Tryd.func59, Tryd.ntmps59
  go_wp2
  go_loopw [3, 8] (fun s i wr => ∃ k : Nat, k ≤ N ∧ i = .int .i64 (k : Int) ∧ s = .int .u64 (wsum (zs.take k)) ∧ Below w.heap.size w wr) (fun _ i _ => N - (intOf i).toNat)
  case atStart => exact ⟨0, Nat.zero_le _, rfl, rfl, Below.refl _ _⟩
  case round =>
    obtain ⟨k, hk, rfl, rfl, hb⟩ := hrel
    have hs := wsum_bound (zs.take k)
    by_cases hlt : k < N
    · have k1 : (k : Int) < (N : Int) := by omega
      have k0 : (0 : Int) ≤ (k : Int) := by omega
      obtain ⟨b, o, rfl, hc⟩ := hA.out k (by omega)
      have hc2 := (hb.cell (World.block_lt_of_cell? _ _ hc)).trans hc
      have hx := hz.at_ (k := k) (by omega)
      have hsn : Hid (wsum (zs.take (k + 1)) = IntKind.u64.wrap (wsum (zs.take k) + zs.getD k 0)) := Lib.hid (by rw [take_snocD (by omega), wsum_snoc, IntKind.wrap_u64])
      generalize zs.getD k 0 = z at *
      generalize wsum (zs.take k) = s at *
      clear hc
      replace hN := Lib.hid hN
      replace hz := Lib.hid hz
      go_wp2
      exact ⟨⟨k + 1, by omega, by go_num, by rw [hsn.out], hb⟩, by simp [intOf]; omega⟩
    · obtain rfl : N = k := by omega
      have k1 : ¬ (N : Int) < (N : Int) := by omega
      rw [List.take_of_length_le (by omega)] at *
      go_wp2
      go_ret
      exact ⟨rfl, hb⟩
end Go.Proofs.YtpojhomccmfffaaDoor

/-
  Bits as elements.
-/
namespace Go.Proofs.YtpojhomccmfffaaDoor
open Go.RowKit Flow F
set_option linter.unusedVariables false
set_option linter.unusedSimpArgs false

/-- What is asked of a field. -/
structure Fb (f : Int) : Prop where
  one2 : f = 1 ∨ f = 2
  hval : ∀ w, Calls Tryd.prog 90 #[.int .u8 f] w fun e w' => e = .returned (.bool true) ∧ Below w.heap.size w w'
  hone : ∀ w, Calls Tryd.prog 57 #[.int .u8 f] w fun e w' => e = .returned (.agg #[.int .u64 1, .int .u64 0]) ∧ Below w.heap.size w w'
  hmul : OpBy 127 f (mul f)
  hadd : OpBy 99 f (add f)
  hsub : OpBy 65 f (sub f)
  hof : ∀ n : Int, 0 ≤ n → n < 18446744069414584321 → ∀ w, Calls Tryd.prog 58 #[.int .u8 f, .int .u64 n] w fun e w' => e = .returned (.agg #[.int .u64 (lo n), .int .u64 (hi n)]) ∧ Below w.heap.size w w'
theorem fb_one : Fb 1 := by
  refine ⟨.inl rfl, fvalid_one, fone_any 1 (.inl rfl), opBy_mul1, opBy_add1, opBy_sub1, fun n n0 n1 w => ?_⟩
  have h := fof_one n n0 (by omega) w
  rw [redu_of_lt n0 (by rw [M1]; exact n1)] at h
  exact h
theorem fb_two : Fb 2 := by
  refine ⟨.inr rfl, fvalid_two, fone_any 2 (.inr rfl), opBy_mul2, opBy_add2, opBy_sub2, fun n n0 n1 w => ?_⟩
  have h := fof_two n n0 (by omega) w
  rw [redu_of_lt n0 (by have : M 2 = 340282366920938462946865773367900766209 := rfl; omega)] at h
  exact h
theorem fb_of {f : Int} (h : f = 1 ∨ f = 2) : Fb f := by
  rcases h with rfl | rfl
  · exact fb_one
  · exact fb_two
/-- A number's bits, the lowest first. -/
def bitN (n i : Nat) : Nat := n / 2 ^ i % 2
def bitsL (n m : Nat) : List Int := (List.range m).map fun i => (bitN n i : Int)
theorem bitsL_length (n m : Nat) : (bitsL n m).length = m := by simp [bitsL]
theorem bitsL_at (n : Nat) {m k : Nat} (h : k < m) : (bitsL n m).getD k 0 = (bitN n k : Int) := by simp [bitsL, h]
theorem bitsL_snoc (n m : Nat) : bitsL n (m + 1) = bitsL n m ++ [(bitN n m : Int)] := by simp [bitsL, List.range_succ]
theorem bitN_lt (n i : Nat) : bitN n i < 2 := Nat.mod_lt _ (by decide)
theorem below_store2' {B : Nat} {a w : World} {b i k : Nat} {u v : Value} (h : Below B a w) (hb : B ≤ b) : Below B a ((w.setCell ⟨b, i, none⟩ u).setCell ⟨b, k, none⟩ v) := (h.setCell hb _).setCell hb _
theorem store2_farx {w : World} {b c i j : Nat} {o : Obj} {u v : Value} (h : w.heap[b]? = some o) (hbc : b ≠ c) : ((w.setCell ⟨c, i, none⟩ u).setCell ⟨c, j, none⟩ v).heap[b]? = some o := store_far (store_far h hbc) hbc
def BitsOut (n m : Nat) (w : World) (e : Ending) (w' : World) : Prop := ∃ g, e = .returned (.slice (some ⟨g, 0, none⟩) m m) ∧ Below w.heap.size w w' ∧ w.heap.size ≤ g ∧ Row w' g (bitsL n m)
set_option maxHeartbeats 1000000 in
theorem bitsOf_any (x : Ci) (h : x.Good) (n m : Nat) (hn : n < 18446744073709551616) (hm : m ≤ 64) (w : World) : Calls Tryd.prog 56 #[cvl x, .int .u64 (n : Int), .int .i64 (m : Int)] w (BitsOut n m w) := by
  have hmk := make_elems m (by omega)
  have fb := fb_of h.f
  obtain ⟨k, f, b, l, W, c⟩ := x
  have hof := fb.hof
  unfold cvl BitsOut
  simp only at *
  replace hof := Lib.hid hof
  clear h fb
  go_enter Tryd.func56, Tryd.ntmps56
  go_upto_region 1 with (fail)
  refine name_wp (fun w1 => Below w.heap.size w w1 ∧ w1.heap[w.heap.size]? = some (.cells #[.int .u8 k, .int .u8 f, .int .i64 b, .int .i64 l, .int .i64 W, .int .i64 c] 31 (0, 0))) ⟨(Below.refl _ _).alloc (Nat.le_refl _) _, alloc_at rfl⟩ ?_
  rintro w1 ⟨hb, k0⟩
  go_wp2
  refine name_wp (fun w2 => Below w.heap.size w w2 ∧ w2.heap[w.heap.size]? = some (.cells #[.int .u8 k, .int .u8 f, .int .i64 b, .int .i64 l, .int .i64 W, .int .i64 c] 31 (0, 0)) ∧ Row w2 w1.heap.size (bitsL n 0 ++ List.replicate (m - 0) 0)) ⟨hb.alloc hb.size _, alloc_keeps k0, (show Row _ _ (List.replicate m 0) from alloc_at rfl)⟩ ?_
  have hg := hb.size
  have hgl := lt_of_get k0
  generalize w1.heap.size = g at *
  clear hb k0 hmk
  rintro w2 ⟨hb, k0, hr⟩
  have hgw := Lib.hid hg
  have hgl2 := Lib.hid hgl
  clear hg hgl
  go_loopw [13] (fun i wr => ∃ j : Nat, j ≤ m ∧ i = .int .i64 (j : Int) ∧ Below w.heap.size w wr ∧ wr.heap[w.heap.size]? = some (.cells #[.int .u8 k, .int .u8 f, .int .i64 b, .int .i64 l, .int .i64 W, .int .i64 c] 31 (0, 0)) ∧ Row wr g (bitsL n j ++ List.replicate (m - j) 0)) (fun i _ => m - (intOf i).toNat)
  case atStart => exact ⟨0, Nat.zero_le _, rfl, hb, k0, hr⟩
  case round =>
    clear hb k0 hr
    obtain ⟨j, hj, rfl, hb, k0, hr⟩ := hrel
    obtain ⟨c0, c1, c2, c3, c4, c5⟩ := blk6 k0
    by_cases hlt : j < m
    · have hlen : j < (bitsL n j ++ List.replicate (m - j) 0).length := by simp [bitsL]; omega
      have hset : (bitsL n j ++ List.replicate (m - j) 0).set j (bitN n j : Int) = bitsL n (j + 1) ++ List.replicate (m - (j + 1)) 0 := by
        rw [List.set_append_right _ _ (by simp [bitsL])]
        rw [bitsL_length, Nat.sub_self, show m - j = (m - (j + 1)) + 1 by omega, List.replicate_succ, List.set_cons_zero, bitsL_snoc]
        simp
      have hbl := bitN_lt n j
      have hc := hof.out (bitN n j : Int) (by omega) (by omega)
      have hq : (((n / 2 ^ j : Nat)) : Int) = (n : Int) / 2 ^ j := by rw [Int.natCast_ediv, Int.natCast_pow]; rfl
      have hq1 : n / 2 ^ j ≤ n := Nat.div_le_self _ _
      have hbit : bits .and .u64 ((n : Int) / 2 ^ j) 1 = (bitN n j : Int) := by
        rw [← hq]
        show bits .and .u64 ((n / 2 ^ j : Nat) : Int) 1 = ((n / 2 ^ j % 2 : Nat) : Int)
        clear hq hc
        generalize n / 2 ^ j = q at *
        rw [and_one (by omega) (by omega)]
        omega
      generalize bitN n j = B at *
      replace hset := Lib.hid hset
      replace hc := Lib.hid hc
      have s0 := hr.lo hlen
      have s1 := hr.hi hlen
      have f0 := hr.free (j * 2)
      have f1 := hr.free (j * 2 + 1)
      replace hlen := Lib.hid hlen
      clear hq hq1 hbl
      go_wp2_with fail
      refine call_then (hc.out _) ?_
      intro w3 hw
      have hb3 := below_next hb hb.size hw
      have hr3 := hr.up hw
      have k3 := keeps hw k0
      have t0 := hr3.lo hlen.out
      have t1 := hr3.hi hlen.out
      have g0 := hr3.free (j * 2)
      have g1 := hr3.free (j * 2 + 1)
      have hr4 := hr3.set hlen.out (B : Int)
      rw [hset.out] at hr4
      have hb4 := below_store2' hb3 hgw.out (u := .int .u64 (lo (B : Int))) (v := .int .u64 (hi (B : Int))) (i := j * 2) (k := j * 2 + 1)
      have k4 := store2_farx k3 (show w.heap.size ≠ g by have := hgl2.out; omega) (u := .int .u64 (lo (B : Int))) (v := .int .u64 (hi (B : Int))) (i := j * 2) (j := j * 2 + 1)
      clear hw hb3 hr3 k3 hb k0 hr c0 c1 c2 c3 c4 c5 s0 s1 f0 f1 hc
      go_wp2
      exact ⟨⟨j + 1, by omega, by go_num, hb4, k4, hr4⟩, by simp [intOf]; omega⟩
    · obtain rfl : m = j := by omega
      rw [Nat.sub_self, List.replicate_zero, List.append_nil] at hr
      go_wp2
      go_ret
      exact ⟨g, rfl, hb, hgw.out, hr⟩
end Go.Proofs.YtpojhomccmfffaaDoor

/-
  Mathematics of sums of bits, and of the number that bits say.
-/
namespace Go.Proofs.YtpojhomccmfffaaDoor
open Go.RowKit F
set_option linter.unusedVariables false

/-- All elements are of the field. -/
def InF (f : Int) (xs : List Int) : Prop := ∀ x, x ∈ xs → 0 ≤ x ∧ x < M f
theorem InF.ok {f : Int} {xs : List Int} (h : InF f xs) : ElemsOK xs := fun x hx => by have := h x hx; have := M_lt f; omega
theorem InF.at_ {f : Int} {xs : List Int} (h : InF f xs) {k : Nat} (hk : k < xs.length) : 0 ≤ xs.getD k 0 ∧ xs.getD k 0 < M f := by
  rw [List.getD_eq_getElem?_getD, List.getElem?_eq_getElem hk]
  exact h _ (List.getElem_mem hk)
theorem InF.take {f : Int} {xs : List Int} (h : InF f xs) (k : Nat) : InF f (xs.take k) := fun x hx => h x (List.mem_of_mem_take hx)
theorem InF.drop {f : Int} {xs : List Int} (h : InF f xs) (k : Nat) : InF f (xs.drop k) := fun x hx => h x (List.mem_of_mem_drop hx)
theorem M_big (f : Int) : 18446744069414584321 ≤ M f := by unfold M; split <;> omega
theorem redu_in {f x : Int} (h0 : 0 ≤ x) (h1 : x < M f) : redu f x = x := redu_of_lt h0 h1
theorem redu_nat {f : Int} {n : Nat} (h : n < 18446744069414584321) : redu f (n : Int) = (n : Int) := redu_of_lt (by omega) (by have := M_big f; omega)
theorem add_zero_in {f x : Int} (h0 : 0 ≤ x) (h1 : x < M f) : add f 0 x = x := by
  have e0 : redu f 0 = 0 := redu_of_lt (by omega) (by have := M_big f; omega)
  unfold add
  rw [e0, redu_in h0 h1, Int.zero_add]
  exact Int.emod_eq_of_lt h0 h1
/-- The sum of elements; the number that bits say. -/
def sumF (f : Int) (xs : List Int) : Int := xs.foldl (add f) 0
def numF (f : Int) (xs : List Int) : Int := (List.zipWith (mul f) xs (powers (mul f) 2 xs.length)).foldl (add f) 0
def bitsB (xs : List Int) : Bool := xs.all fun x => x == 0 || x == 1
def ones (xs : List Int) : Nat := (xs.map Int.toNat).sum
def said : List Int → Nat
  | [] => 0
  | x :: xs => x.toNat + 2 * said xs
theorem sumF_snoc (f : Int) (xs : List Int) (x : Int) : sumF f (xs ++ [x]) = add f (sumF f xs) x := by
  unfold sumF
  rw [List.foldl_append]
  rfl
theorem bitsB_cons {x : Int} {xs : List Int} (h : bitsB (x :: xs) = true) : (x = 0 ∨ x = 1) ∧ bitsB xs = true := by
  unfold bitsB at *
  simpa using h
theorem bitsB_append (a b : List Int) : bitsB (a ++ b) = (bitsB a && bitsB b) := by unfold bitsB; simp
theorem ones_append (a b : List Int) : ones (a ++ b) = ones a + ones b := by unfold ones; simp
theorem ones_le : ∀ {xs : List Int}, bitsB xs = true → ones xs ≤ xs.length
  | [], _ => by simp [ones]
  | x :: xs, h => by
    obtain ⟨hx, h⟩ := bitsB_cons h
    have := ones_le h
    unfold ones at *
    simp only [List.map_cons, List.sum_cons, List.length_cons]
    rcases hx with rfl | rfl <;> simp <;> omega
theorem said_lt : ∀ {xs : List Int}, bitsB xs = true → said xs < 2 ^ xs.length
  | [], _ => by simp [said]
  | x :: xs, h => by
    obtain ⟨hx, h⟩ := bitsB_cons h
    have := said_lt h
    simp only [said, List.length_cons, Nat.pow_succ]
    rcases hx with rfl | rfl <;> simp <;> omega
theorem bits_in {f : Int} {xs : List Int} (h : bitsB xs = true) : InF f xs := fun x hx => by
  unfold bitsB at h
  rw [List.all_eq_true] at h
  have := h x hx
  have := M_big f
  simp at *
  omega
/-- The sum of bits is how many are 1. -/
theorem sumF_bits (f : Int) {xs : List Int} (h : bitsB xs = true) (hl : xs.length ≤ 65536) : sumF f xs = (ones xs : Int) := by
  obtain ⟨n, hn⟩ : ∃ n, xs.length = n := ⟨_, rfl⟩
  induction n generalizing xs with
  | zero =>
    obtain rfl : xs = [] := List.length_eq_zero_iff.1 hn
    rfl
  | succ n ih =>
    obtain ⟨ys, x, rfl⟩ : ∃ ys x, xs = ys ++ [x] := by
      rcases xs.eq_nil_or_concat with rfl | ⟨ys, x, rfl⟩
      · simp at hn
      · exact ⟨ys, x, List.concat_eq_append⟩
    rw [bitsB_append, Bool.and_eq_true] at h
    obtain ⟨hx, _⟩ := bitsB_cons h.2
    rw [List.length_append] at hl hn
    simp only [List.length_cons, List.length_nil] at hl hn
    have hi := ih h.1 (by omega) (by omega)
    have hle := ones_le h.1
    rw [sumF_snoc, hi, ones_append]
    have e : ones [x] = x.toNat := by simp [ones]
    rw [e]
    have hM := M_big f
    unfold add
    rw [redu_nat (by omega), redu_in (by omega) (by omega), Int.emod_eq_of_lt (by omega) (by omega)]
    rcases hx with rfl | rfl <;> simp
theorem power_two (f : Int) : ∀ k, k ≤ 63 → power (mul f) 2 k = ((2 ^ k : Nat) : Int)
  | 0, _ => by simp [power]
  | k + 1, h => by
    have hi := power_two f k (by omega)
    have hp : 2 ^ (k + 1) ≤ 2 ^ 63 := Nat.pow_le_pow_right (by omega) h
    have hM := M_big f
    rw [power, hi]
    unfold mul
    rw [redu_nat (by rw [Nat.pow_succ] at hp; omega), redu_in (x := 2) (by omega) (by omega)]
    rw [Nat.pow_succ] at *
    rw [Int.emod_eq_of_lt (by omega) (by omega)]
    omega
theorem mul_bit {f x : Int} {P : Nat} (hx : x = 0 ∨ x = 1) (hP : P < 18446744069414584321) : mul f x (P : Int) = ((x.toNat * P : Nat) : Int) := by
  have hM := M_big f
  unfold mul
  rw [redu_nat hP, redu_in (by omega) (by omega)]
  rcases hx with rfl | rfl
  · simp
  · rw [Int.one_mul, Int.emod_eq_of_lt (by omega) (by omega)]
    simp
theorem said_snoc : ∀ (xs : List Int) (x : Int), said (xs ++ [x]) = said xs + x.toNat * 2 ^ xs.length
  | [], x => by simp [said]
  | y :: xs, x => by
    rw [List.cons_append, said, said_snoc xs x, said, List.length_cons, Nat.pow_succ, ← Nat.mul_assoc]
    omega
theorem powers_snoc (op : Int → Int → Int) (a : Int) (n : Nat) : powers op a (n + 1) = powers op a n ++ [power op a n] := by simp [powers, List.range_succ]
theorem numF_snoc (f : Int) (xs : List Int) (x : Int) : numF f (xs ++ [x]) = add f (numF f xs) (mul f x (power (mul f) 2 xs.length)) := by
  unfold numF
  rw [List.length_append, List.length_cons, List.length_nil, Nat.zero_add, powers_snoc, List.zipWith_append (by rw [powers_length]), List.foldl_append]
  rfl
/-- The number that bits say. -/
theorem numF_bits (f : Int) {xs : List Int} (h : bitsB xs = true) (hl : xs.length ≤ 62) : numF f xs = (said xs : Int) := by
  obtain ⟨n, hn⟩ : ∃ n, xs.length = n := ⟨_, rfl⟩
  induction n generalizing xs with
  | zero =>
    obtain rfl : xs = [] := List.length_eq_zero_iff.1 hn
    rfl
  | succ n ih =>
    obtain ⟨ys, x, rfl⟩ : ∃ ys x, xs = ys ++ [x] := by
      rcases xs.eq_nil_or_concat with rfl | ⟨ys, x, rfl⟩
      · simp at hn
      · exact ⟨ys, x, List.concat_eq_append⟩
    have hlt := said_lt h
    rw [bitsB_append, Bool.and_eq_true] at h
    obtain ⟨hx, _⟩ := bitsB_cons h.2
    have hlen : (ys ++ [x]).length = ys.length + 1 := by simp
    rw [hlen] at hl hn hlt
    have hi := ih h.1 (by omega) (by omega)
    have hp : 2 ^ (ys.length + 1) ≤ 2 ^ 62 := Nat.pow_le_pow_right (by omega) hl
    have hp2 : 2 ^ ys.length ≤ 2 ^ 62 := Nat.pow_le_pow_right (by omega) (by omega)
    rw [numF_snoc, hi, power_two f _ (by omega), mul_bit hx (by omega)]
    rw [said_snoc] at hlt ⊢
    have hM := M_big f
    generalize x.toNat * 2 ^ ys.length = T at *
    unfold add
    rw [redu_nat (by omega), redu_nat (by omega), Int.emod_eq_of_lt (by omega) (by omega)]
    omega
end Go.Proofs.YtpojhomccmfffaaDoor

/-
  By how much the weight's bits are told too great; may numbers be measured?
-/
namespace Go.Proofs.YtpojhomccmfffaaDoor
open Go.RowKit Flow F
set_option linter.unusedVariables false
set_option linter.unusedSimpArgs false

def offN (W : Nat) : Nat := 2 ^ Lib.bitLen W - 1 - W
theorem bl_small : ∀ W : Fin 65, W.val < 2 ^ Lib.bitLen W.val ∧ Lib.bitLen W.val ≤ 7 ∧ (1 ≤ W.val → 1 ≤ Lib.bitLen W.val) := by decide +kernel
theorem bl_lt {W : Nat} (h : W ≤ 64) : W < 2 ^ Lib.bitLen W := (bl_small ⟨W, by omega⟩).1
theorem bl_le {W : Nat} (h : W ≤ 64) : Lib.bitLen W ≤ 7 := (bl_small ⟨W, by omega⟩).2.1
theorem pow_le7 {b : Nat} (h : b ≤ 7) : 2 ^ b ≤ 128 := Nat.le_trans (Nat.pow_le_pow_right (by omega) h) (by decide)
theorem offN_le {W : Nat} (h : W ≤ 64) : offN W ≤ 127 := by unfold offN; have := pow_le7 (bl_le h); omega
theorem offset_any (k f b l c : Int) (W : Nat) (h1 : W ≤ 64) (w : World) : Calls Tryd.prog 60 #[.agg #[.int .u8 k, .int .u8 f, .int .i64 b, .int .i64 l, .int .i64 (W : Int), .int .i64 c]] w fun e w' => e = .returned (.int .u64 (offN W : Int)) ∧ Below w.heap.size w w' := by
  have hwb := fun w => wb_any k f b l (W : Int) c (by omega) (by omega) w
  simp only [Int.toNat_natCast] at hwb
  have hlt := bl_lt h1
  have hle := bl_le h1
  have hp := pow_le7 hle
  unfold offN
  generalize Lib.bitLen W = B at *
  have hsh : ((1 : Int) * 2 ^ B) = ((2 ^ B : Nat) : Int) := by simp
  obtain ⟨X, hX⟩ : ∃ X, X = 2 ^ B := ⟨_, rfl⟩
  rw [← hX] at hp hlt hsh ⊢
  have hwr : IntKind.u64.wrap ((1 : Int) * 2 ^ B) = (X : Int) := by rw [hsh, IntKind.wrap_u64]; omega
  have hwr2 : IntKind.u64.wrap ((2 : Int) ^ B) = (X : Int) := by rw [← hwr]; simp
  have hwr3 : ((2 : Int) ^ B) = (X : Int) := by rw [← hsh]; simp
  obtain ⟨Y, hY⟩ : ∃ Y, X - 1 = Y := ⟨_, rfl⟩
  obtain ⟨Z, hZ⟩ : ∃ Z, X - 1 - W = Z := ⟨_, rfl⟩
  have hw0 : IntKind.u64.wrap (W : Int) = (W : Int) := by rw [IntKind.wrap_u64]; omega
  have hB0 : IntKind.u64.wrap (B : Int) = (B : Int) := by rw [IntKind.wrap_u64]; omega
  have hy : IntKind.u64.wrap ((X : Int) - 1) = (Y : Int) := by rw [IntKind.wrap_u64]; omega
  have hy2 : (X : Int) - 1 = (Y : Int) := by omega
  have hz : IntKind.u64.wrap ((Y : Int) - (W : Int)) = (Z : Int) := by rw [IntKind.wrap_u64]; omega
  have hz2 : (Y : Int) - (W : Int) = (Z : Int) := by omega
  rw [hZ]
  have hYW : W ≤ Y := by omega
  replace hX := Lib.hid hX
  replace hY := Lib.hid hY
  replace hZ := Lib.hid hZ
  replace hwb := Lib.hid hwb
  clear hsh
  go_enter Tryd.func60, Tryd.ntmps60
  go_upto_region 1 with (fail)
  refine name_wp (fun w1 => Below w.heap.size w w1 ∧ w1.heap[w.heap.size]? = some (.cells #[.int .u8 k, .int .u8 f, .int .i64 b, .int .i64 l, .int .i64 (W : Int), .int .i64 c] 31 (0, 0))) ⟨(Below.refl _ _).alloc (Nat.le_refl _) _, alloc_at rfl⟩ ?_
  rintro w1 ⟨hb, k0⟩
  obtain ⟨c0, c1, c2, c3, c4, c5⟩ := blk6 k0
  refine wp_region_flow0 (by kernel_rfl) (by kernel_rfl) ?_
  intro ι _ φ hφ
  have q := fun i => blk6 (keeps (hφ.old i) k0)
  have q0 := fun i => (q i).1
  have q1 := fun i => (q i).2.1
  have q2 := fun i => (q i).2.2.1
  have q3 := fun i => (q i).2.2.2.1
  have q4 := fun i => (q i).2.2.2.2.1
  have q5 := fun i => (q i).2.2.2.2.2
  clear q
  repeat (go_big_quiet_step ((first
    | (go_at_call 61; exact flow_call hφ (hwb.out _)))))
  refine wpQuiet_nil ?_
  intro w2 hw2
  clear q0 q1 q2 q3 q4 q5 hφ c0 c1 c2 c3 c4 c5
  go_wp2
  go_ret
  exact ⟨rfl, below_next hb hb.size hw2⟩
/-- May numbers be measured? -/
def fitsB (x : Ci) (zs : List Int) : Bool := if x.k = 4 then decide (zs.getD 0 0 < x.l) else zs.all (fun z => decide (z ≤ (x.mostN : Int))) && (decide (x.k ≠ 5) || decide (wsum zs ≤ x.w))
def allLe (m : Int) (zs : List Int) : Bool := zs.all (fun z => decide (z ≤ m))
theorem allLe_snoc (m : Int) (l : List Int) (x : Int) : allLe m (l ++ [x]) = (allLe m l && decide (x ≤ m)) := by simp [allLe]
theorem allLe_of_take {m : Int} {l : List Int} {k : Nat} (h : k < l.length) (hx : ¬ l.getD k 0 ≤ m) : allLe m l = false := by
  unfold allLe
  rw [List.all_eq_false]
  refine ⟨l[k], List.getElem_mem h, ?_⟩
  rw [List.getD_eq_getElem?_getD, List.getElem?_eq_getElem h] at hx
  simpa using hx
set_option maxHeartbeats 1000000 in
theorem fits_four (f b W c : Int) (l : Nat) (hl : l ≤ 64) (zs : List Int) (A : Option Addr) (N cp : Nat) (hN : zs.length = N) (h1 : 1 ≤ N) (hz : WordsOK zs) (w : World) (hA : WordsAt w A zs) :
    Calls Tryd.prog 54 #[.agg #[.int .u8 4, .int .u8 f, .int .i64 b, .int .i64 (l : Int), .int .i64 W, .int .i64 c], .slice A N cp] w fun e w' => e = .returned (.bool (decide (zs.getD 0 0 < (l : Int)))) ∧ Below w.heap.size w w' := by
  obtain ⟨p, o, rfl, hc⟩ := hA 0 (by omega)
  have hx := hz.at_ (k := 0) (by omega)
  have hw0 : IntKind.u64.wrap (l : Int) = (l : Int) := by rw [IntKind.wrap_u64]; omega
  generalize zs.getD 0 0 = z at *
  have N0 : (0 : Int) < (N : Int) := by omega
  have hlt := World.block_lt_of_cell? _ _ hc
  simp only at hlt
  replace hN := Lib.hid hN
  clear hz hA
  have hc' : (w.alloc (.cells #[.int .u8 4, .int .u8 f, .int .i64 b, .int .i64 (l : Int), .int .i64 W, .int .i64 c] 31 (0, 0))).cell? ⟨p, o, none⟩ = some (.int .u64 z) := (((Below.refl _ _).alloc (Nat.le_refl _) _).cell (p := ⟨p, o, none⟩) hlt).trans hc
  go_enter Tryd.func54, Tryd.ntmps54
  go_upto_region 1 with (fail)
  refine name_wp (fun w1 => Below w.heap.size w w1 ∧ w1.heap[w.heap.size]? = some (.cells #[.int .u8 4, .int .u8 f, .int .i64 b, .int .i64 (l : Int), .int .i64 W, .int .i64 c] 31 (0, 0)) ∧ w1.cell? ⟨p, o, none⟩ = some (.int .u64 z)) ⟨(Below.refl _ _).alloc (Nat.le_refl _) _, alloc_at rfl, hc'⟩ ?_
  clear hc'
  rintro w1 ⟨hb, k0, hc'⟩
  obtain ⟨c0, c1, c2, c3, c4, c5⟩ := blk6 k0
  go_wp2
  refine wp_region_flow0 (by kernel_rfl) (by kernel_rfl) ?_
  intro ι _ φ hφ
  have q := fun i => blk6 (keeps (hφ.old i) k0)
  have q0 := fun i => (q i).1
  have q3 := fun i => (q i).2.2.2.1
  have q9 := fun i => hφ.cell hc' i
  clear q
  repeat (go_big_quiet_step (fail))
  refine wpQuiet_nil ?_
  intro w2 hw2
  clear q0 q3 q9 hφ c0 c1 c2 c3 c4 c5
  go_wp2
  go_ret
  exact ⟨rfl, below_next hb hb.size hw2⟩
set_option maxHeartbeats 2000000 in
theorem fits_five (f b l c : Int) (W : Nat) (hW : W ≤ 64) (X : Nat) (hM : ∀ w, Calls Tryd.prog 93 #[.agg #[.int .u8 5, .int .u8 f, .int .i64 b, .int .i64 l, .int .i64 (W : Int), .int .i64 c]] w fun e w' => e = .returned (.int .u64 (X : Int)) ∧ Below w.heap.size w w')
    (zs : List Int) (A : Option Addr) (N cp : Nat) (hN : zs.length = N) (hm : N ≤ maxLen) (hz : WordsOK zs) (w : World) (hA : WordsAt w A zs) (R : Bool) (hfin : R = (allLe (X : Int) zs && decide (wsum zs ≤ (W : Int)))) :
    Calls Tryd.prog 54 #[.agg #[.int .u8 5, .int .u8 f, .int .i64 b, .int .i64 l, .int .i64 (W : Int), .int .i64 c], .slice A N cp] w fun e w' => e = .returned (.bool R) ∧ Below w.heap.size w w' := by
  have had := Lib.hid (fun w hA => added_any zs A N cp hN hz hm w hA)
  have hw0 : IntKind.u64.wrap (W : Int) = (W : Int) := by rw [IntKind.wrap_u64]; omega
  unfold maxLen at hm
  replace hN := Lib.hid hN
  replace hA := Lib.hid hA
  replace hz := Lib.hid hz
  replace hM := Lib.hid hM
  replace hfin := Lib.hid hfin
  go_enter Tryd.func54, Tryd.ntmps54
  go_upto_region 1 with (fail)
  refine name_wp (fun w1 => Below w.heap.size w w1 ∧ w1.heap[w.heap.size]? = some (.cells #[.int .u8 5, .int .u8 f, .int .i64 b, .int .i64 l, .int .i64 (W : Int), .int .i64 c] 31 (0, 0))) ⟨(Below.refl _ _).alloc (Nat.le_refl _) _, alloc_at rfl⟩ ?_
  rintro w1 ⟨hb, k0⟩
  obtain ⟨c0, c1, c2, c3, c4, c5⟩ := blk6 k0
  go_wp2_with fail
  refine call_then (hM.out _) ?_
  intro w2 hb2
  replace hb := below_next hb hb.size hb2
  replace k0 := keeps hb2 k0
  clear hb2 c0 c1 c2 c3 c4 c5
  obtain ⟨c0, c1, c2, c3, c4, c5⟩ := blk6 k0
  go_wp2
  clear c0 c1 c2 c3 c4 c5
  go_loopw [22] (fun i wr => ∃ j : Nat, j ≤ N ∧ i = .int .i64 (j : Int) ∧ Below w.heap.size w wr ∧ wr.heap[w.heap.size]? = some (.cells #[.int .u8 5, .int .u8 f, .int .i64 b, .int .i64 l, .int .i64 W, .int .i64 c] 31 (0, 0)) ∧ Hid (allLe (X : Int) (zs.take j) = true)) (fun i _ => N - (intOf i).toNat)
  case atStart => exact ⟨0, Nat.zero_le _, rfl, hb, k0, Lib.hid rfl⟩
  case round =>
    clear hb k0
    obtain ⟨j, hj, rfl, hb, k0, hall⟩ := hrel
    obtain ⟨c0, c1, c2, c3, c4, c5⟩ := blk6 k0
    by_cases hlt : j < N
    · have j1 : (j : Int) < (N : Int) := by omega
      have j0 : (0 : Int) ≤ (j : Int) := by omega
      obtain ⟨p, o, rfl, hc⟩ := hA.out j (by rw [hN.out]; exact hlt)
      have hc2 := (hb.cell (World.block_lt_of_cell? _ _ hc)).trans hc
      have hx := hz.out.at_ (k := j) (by rw [hN.out]; exact hlt)
      by_cases hle : zs.getD j 0 ≤ (X : Int)
      · have hall2 : Hid (allLe (X : Int) (zs.take (j + 1)) = true) := Lib.hid (by rw [take_snocD (by rw [hN.out]; exact hlt), allLe_snoc, hall.out]; simpa using hle)
        have b1 : decide (zs.getD j 0 > (X : Int)) = false := by rw [decide_eq_false_iff_not]; omega
        generalize zs.getD j 0 = z at *
        clear hc hle
        go_wp2
        exact ⟨⟨j + 1, by omega, by go_num, hb, k0, hall2⟩, by simp [intOf]; omega⟩
      · have hbad := allLe_of_take (by rw [hN.out]; exact hlt) hle
        have b1 : decide (zs.getD j 0 > (X : Int)) = true := by rw [decide_eq_true_eq]; omega
        generalize zs.getD j 0 = z at *
        clear hc hle
        have hbad2 := Lib.hid hbad
        clear hbad
        go_wp2
        go_ret
        exact ⟨by rw [hfin.out, hbad2.out]; rfl, hb⟩
    · obtain rfl : N = j := by omega
      rw [List.take_of_length_le (by rw [hN.out]; exact Nat.le_refl _)] at hall
      have j1 : ¬ (N : Int) < (N : Int) := by omega
      have hfin2 := Lib.hid (hfin.out.trans (by rw [hall.out, Bool.true_and]))
      skip
      have had := fun w (hA : WordsAt w A zs) => had.out w hA
      go_wp2
      refine wp_region_flow0 (by kernel_rfl) (by kernel_rfl) ?_
      intro ι _ φ hφ
      have q := fun i => blk6 (keeps (hφ.old i) k0)
      have q0 := fun i => (q i).1
      have q4 := fun i => (q i).2.2.2.2.1
      have q9 := fun i => (hA.out.up hb).up (hφ.old i)
      clear q
      replace had := Lib.hid had
      replace q9 := Lib.hid q9
      repeat (go_big_quiet_step ((go_at_call 59; exact flow_call hφ (had.out _ (q9.out _)))))
      refine wpQuiet_nil ?_
      intro w2 hw2
      clear q0 q4 q9 hφ c0 c1 c2 c3 c4 c5
      go_wp2
      go_ret
      exact ⟨by rw [hfin2.out]; rfl, below_next hb hb.size hw2⟩
set_option maxHeartbeats 2000000 in
theorem fits_rest (k f b l W c : Int) (hk4 : k ≠ 4) (hk5 : k ≠ 5) (X : Nat) (hM : ∀ w, Calls Tryd.prog 93 #[.agg #[.int .u8 k, .int .u8 f, .int .i64 b, .int .i64 l, .int .i64 W, .int .i64 c]] w fun e w' => e = .returned (.int .u64 (X : Int)) ∧ Below w.heap.size w w')
    (zs : List Int) (A : Option Addr) (N cp : Nat) (hN : zs.length = N) (hm : N ≤ maxLen) (hz : WordsOK zs) (w : World) (hA : WordsAt w A zs) (R : Bool) (hfin : R = (allLe (X : Int) zs && true)) :
    Calls Tryd.prog 54 #[.agg #[.int .u8 k, .int .u8 f, .int .i64 b, .int .i64 l, .int .i64 W, .int .i64 c], .slice A N cp] w fun e w' => e = .returned (.bool R) ∧ Below w.heap.size w w' := by
  unfold maxLen at hm
  have n4 : (k == 4) = false := by simpa using hk4
  have n5 : (k == 5) = false := by simpa using hk5
  have m5 : (k != 5) = true := by simpa using hk5
  have d4 : decide (k = 4) = false := by simpa using hk4
  clear hk4 hk5
  replace hN := Lib.hid hN
  replace hA := Lib.hid hA
  replace hz := Lib.hid hz
  replace hM := Lib.hid hM
  replace hfin := Lib.hid hfin
  go_enter Tryd.func54, Tryd.ntmps54
  go_upto_region 1 with (fail)
  refine name_wp (fun w1 => Below w.heap.size w w1 ∧ w1.heap[w.heap.size]? = some (.cells #[.int .u8 k, .int .u8 f, .int .i64 b, .int .i64 l, .int .i64 W, .int .i64 c] 31 (0, 0))) ⟨(Below.refl _ _).alloc (Nat.le_refl _) _, alloc_at rfl⟩ ?_
  rintro w1 ⟨hb, k0⟩
  obtain ⟨c0, c1, c2, c3, c4, c5⟩ := blk6 k0
  go_wp2_with fail
  refine call_then (hM.out _) ?_
  intro w2 hb2
  replace hb := below_next hb hb.size hb2
  replace k0 := keeps hb2 k0
  clear hb2 c0 c1 c2 c3 c4 c5
  obtain ⟨c0, c1, c2, c3, c4, c5⟩ := blk6 k0
  go_wp2
  clear c0 c1 c2 c3 c4 c5
  go_loopw [22] (fun i wr => ∃ j : Nat, j ≤ N ∧ i = .int .i64 (j : Int) ∧ Below w.heap.size w wr ∧ wr.heap[w.heap.size]? = some (.cells #[.int .u8 k, .int .u8 f, .int .i64 b, .int .i64 l, .int .i64 W, .int .i64 c] 31 (0, 0)) ∧ Hid (allLe (X : Int) (zs.take j) = true)) (fun i _ => N - (intOf i).toNat)
  case atStart => exact ⟨0, Nat.zero_le _, rfl, hb, k0, Lib.hid rfl⟩
  case round =>
    clear hb k0
    obtain ⟨j, hj, rfl, hb, k0, hall⟩ := hrel
    obtain ⟨c0, c1, c2, c3, c4, c5⟩ := blk6 k0
    by_cases hlt : j < N
    · have j1 : (j : Int) < (N : Int) := by omega
      have j0 : (0 : Int) ≤ (j : Int) := by omega
      obtain ⟨p, o, rfl, hc⟩ := hA.out j (by rw [hN.out]; exact hlt)
      have hc2 := (hb.cell (World.block_lt_of_cell? _ _ hc)).trans hc
      have hx := hz.out.at_ (k := j) (by rw [hN.out]; exact hlt)
      by_cases hle : zs.getD j 0 ≤ (X : Int)
      · have hall2 : Hid (allLe (X : Int) (zs.take (j + 1)) = true) := Lib.hid (by rw [take_snocD (by rw [hN.out]; exact hlt), allLe_snoc, hall.out]; simpa using hle)
        have b1 : decide (zs.getD j 0 > (X : Int)) = false := by rw [decide_eq_false_iff_not]; omega
        generalize zs.getD j 0 = z at *
        clear hc hle
        go_wp2
        exact ⟨⟨j + 1, by omega, by go_num, hb, k0, hall2⟩, by simp [intOf]; omega⟩
      · have hbad := allLe_of_take (by rw [hN.out]; exact hlt) hle
        have b1 : decide (zs.getD j 0 > (X : Int)) = true := by rw [decide_eq_true_eq]; omega
        generalize zs.getD j 0 = z at *
        clear hc hle
        have hbad2 := Lib.hid hbad
        clear hbad
        go_wp2
        go_ret
        exact ⟨by rw [hfin.out, hbad2.out]; rfl, hb⟩
    · obtain rfl : N = j := by omega
      rw [List.take_of_length_le (by rw [hN.out]; exact Nat.le_refl _)] at hall
      have j1 : ¬ (N : Int) < (N : Int) := by omega
      have hfin2 := Lib.hid (hfin.out.trans (by rw [hall.out, Bool.true_and]))
      skip
      go_wp2
      refine wp_region_flow0 (by kernel_rfl) (by kernel_rfl) ?_
      intro ι _ φ hφ
      have q := fun i => blk6 (keeps (hφ.old i) k0)
      have q0 := fun i => (q i).1
      have q4 := fun i => (q i).2.2.2.2.1
      clear q
      repeat (go_big_quiet_step (fail))
      refine wpQuiet_nil ?_
      intro w2 hw2
      clear q0 q4 hφ c0 c1 c2 c3 c4 c5
      go_wp2
      go_ret
      exact ⟨by rw [hfin2.out]; rfl, below_next hb hb.size hw2⟩
/-- May numbers be measured? -/
theorem fits_any (x : Ci) (h : x.Good) (zs : List Int) (A : Option Addr) (N cp : Nat) (hN : zs.length = N) (h1 : 1 ≤ N) (hm : N ≤ maxLen) (hz : WordsOK zs) (w : World) (hA : WordsAt w A zs) :
    Calls Tryd.prog 54 #[cvl x, .slice A N cp] w fun e w' => e = .returned (.bool (fitsB x zs)) ∧ Below w.heap.size w w' := by
  have hM := fun w => most_any x h w
  have hF := h.fits
  unfold fitsB
  obtain ⟨k, f, b, l, W, c⟩ := x
  unfold cvl at *
  generalize (Ci.mk k f b l W c).mostN = X at *
  simp only at *
  by_cases h4 : k = 4
  · subst h4
    have hl := hF.l (by simp)
    simp only at hl
    obtain ⟨nl, rfl⟩ := Int.eq_ofNat_of_zero_le (show 0 ≤ l by omega)
    rw [if_pos rfl]
    exact fits_four f b W c nl (by omega) zs A N cp hN h1 hz w hA
  · rw [if_neg h4]
    by_cases h5 : k = 5
    · subst h5
      have hw := hF.w rfl
      have hl := hF.l (by simp)
      simp only at hw hl
      obtain ⟨nW, rfl⟩ := Int.eq_ofNat_of_zero_le (show 0 ≤ W by omega)
      refine fits_five f b l c nW (by omega) X hM zs A N cp hN hm hz w hA _ ?_
      simp [allLe]
    · refine fits_rest k f b l W c h4 h5 X hM zs A N cp hN hm hz w hA _ ?_
      simp [allLe, h5]
end Go.Proofs.YtpojhomccmfffaaDoor

/-
  What is measured as a vector.
-/
namespace Go.Proofs.YtpojhomccmfffaaDoor
open Go.RowKit Flow F
set_option linter.unusedVariables false
set_option linter.unusedSimpArgs false

/-- What is measured as a vector. -/
def encL (x : Ci) (zs : List Int) : List Int :=
  if x.k = 2 ∨ x.k = 3 then zs.flatMap (fun z => bitsL z.toNat x.b.toNat)
  else if x.k = 4 then (List.replicate x.l.toNat 0).set (zs.getD 0 0).toNat 1
  else if x.k = 5 then zs ++ bitsL ((wsum zs).toNat + offN x.w.toNat) (Lib.bitLen x.w.toNat)
  else zs
/-- Its error. -/
def encE (x : Ci) (N : Nat) (zs : List Int) : Int := if x.code = 0 then (if N = x.measuredN then (if fitsB x zs = true then 0 else 6) else 9) else x.code
def EncOut (x : Ci) (L : List Int) (w : World) (e : Ending) (w' : World) : Prop :=
  ∃ A c, e = .returned (.tuple #[.slice A L.length c, .int .i64 0]) ∧ Below w.heap.size w w' ∧ ElemsAt w' A L ∧ L.length ≤ c ∧ ∀ a, A = some a → w.heap.size ≤ a.block
theorem ecells_one : ∀ xs, ∀ u ∈ ecells xs, u.oneCell' = true
  | [] => fun u hu => by cases hu
  | x :: xs => fun u hu => by
    simp only [ecells, List.mem_cons] at hu
    rcases hu with rfl | rfl | hu
    · rfl
    · rfl
    · exact ecells_one xs u hu
theorem owns_sl {w : World} {base n size : Nat} {e : TypeId} {v : Value} {xs : List Value} (h : w.ownsRow base e size v n xs) : ∃ a c, v = .slice a n c := by
  rcases h.2 with ⟨rfl, hn⟩ | ⟨g, cap, cur, rfl, _⟩
  · exact ⟨none, 0, by rw [hn]⟩
  · exact ⟨_, _, rfl⟩
theorem owns_out {w : World} {base : Nat} {v : Value} {n : Nat} {L : List Int} (h : w.ownsRow base 65 2 v n (ecells L)) : ∃ a c, v = .slice a L.length c ∧ ElemsAt w a L ∧ L.length ≤ c ∧ ∀ x, a = some x → base ≤ x.block := by
  obtain ⟨h1, h2⟩ := owns_elemsB h
  subst h1
  rcases h2 with ⟨h0, rfl⟩ | ⟨g, c, rfl, hc, hg, hel, _⟩
  · refine ⟨none, 0, by rw [h0], fun k hk => by omega, by omega, fun x e => by cases e⟩
  · exact ⟨_, _, rfl, hel, hc, fun x e => by cases e; exact hg⟩
theorem make_cap (c : Nat) (hc : c ≤ 65536) (w : World) : ∃ cur, (Instr.makeSlice 35 (.int .i64 0) (.int .i64 (c : Int))).run Tryd.prog w = .ok (.slice (some ⟨w.heap.size, 0, none⟩) 0 c) (w.alloc (.cells cur 65)) ∧ cur.size = c * 2 := by
  obtain ⟨i0, h0, h1, h2, h3⟩ := info_parts info_elem
  have hb : (i0.bytes : Int) * (c : Int) ≤ 281474976710656 := by rw [h3]; omega
  have hr := run_make (P := Tryd.prog) w 35 65 i0 _ Tryd.underlying35 h0 h1 .i64 .i64 0 c (by omega) (by omega) hb (by omega)
  simp only [Int.toNat_natCast] at hr
  rw [h2] at hr
  exact ⟨_, hr, size_madeCells _ _⟩
theorem row_news {w : World} {g : Nat} {xs : List Int} (h : Row w g xs) : ∀ j u, (ecells xs)[j]? = some u → w.cell? (Addr.add ⟨g, 0, none⟩ j) = some u := fun j u hj => by
  have h' : w.heap[g]? = some (.cells (ecells xs).toArray 65 (0, 0)) := h
  rw [add_two rfl, Nat.zero_add]
  simp only [World.cell?, h']
  simpa using hj
theorem flat_snoc {b : Nat} {l : List Int} {k : Nat} (h : k < l.length) : ecells ((l.take (k + 1)).flatMap (fun z => bitsL z.toNat b)) = ecells ((l.take k).flatMap (fun z => bitsL z.toNat b)) ++ ecells (bitsL (l.getD k 0).toNat b) := by
  rw [take_snocD h, List.flatMap_append, ecells_append]
  simp
theorem flat_len (b : Nat) : ∀ l : List Int, (l.flatMap (fun z => bitsL z.toNat b)).length = l.length * b
  | [] => by simp
  | z :: l => by rw [List.flatMap_cons, List.length_append, flat_len b l, bitsL_length, List.length_cons, Nat.succ_mul]; omega
theorem enc_code (x : Ci) (A : Option Addr) (N cp : Nat) (h : x.code ≠ 0) (w : World) : Calls Tryd.prog 21 #[cvl x, .slice A N cp] w fun e w' => e = .returned (.tuple #[.slice none 0 0, .int .i64 x.code]) ∧ Below w.heap.size w w' := by
  obtain ⟨k, f, b, l, W, c⟩ := x
  have hC := fun w => ccheck_any k f b l W c w
  unfold cvl
  generalize (Ci.mk k f b l W c).code = z at *
  have h1 : (z != 0) = true := by simpa using h
  replace hC := Lib.hid hC
  clear h
  go_enter Tryd.func21, Tryd.ntmps21
  go_upto_region 1 with (fail)
  refine name_wp (fun w1 => Below w.heap.size w w1 ∧ w1.heap[w.heap.size]? = some (.cells #[.int .u8 k, .int .u8 f, .int .i64 b, .int .i64 l, .int .i64 W, .int .i64 c] 31 (0, 0))) ⟨(Below.refl _ _).alloc (Nat.le_refl _) _, alloc_at rfl⟩ ?_
  rintro w1 ⟨hb, k0⟩
  obtain ⟨c0, c1, c2, c3, c4, c5⟩ := blk6 k0
  go_wp2_with fail
  refine call_then (hC.out _) ?_
  intro w2 hb2
  replace hb := below_next hb hb.size hb2
  replace k0 := keeps hb2 k0
  clear hb2 c0 c1 c2 c3 c4 c5
  obtain ⟨c0, c1, c2, c3, c4, c5⟩ := blk6 k0
  go_wp2
  go_ret2
  exact ⟨rfl, hb⟩
theorem enc_size (x : Ci) (A : Option Addr) (N cp : Nat) (h : x.Good) (hN : N ≠ x.measuredN) (w : World) : Calls Tryd.prog 21 #[cvl x, .slice A N cp] w fun e w' => e = .returned (.tuple #[.slice none 0 0, .int .i64 9]) ∧ Below w.heap.size w w' := by
  have hM := measured_any x h
  have hz := h.code
  obtain ⟨k, f, b, l, W, c⟩ := x
  have hC := fun w => ccheck_any k f b l W c w
  unfold cvl NumBy at *
  generalize (Ci.mk k f b l W c).measuredN = M at *
  rw [hz] at hC
  have n1 : ((N : Int) != (M : Int)) = true := by simp; omega
  have n2 : (N != M) = true := by simpa using hN
  have n3 : ((N : Int) == (M : Int)) = false := by simp; omega
  have n4 : (N == M) = false := by simpa using hN
  replace hC := Lib.hid hC
  replace hM := Lib.hid hM
  clear h hN hz
  go_enter Tryd.func21, Tryd.ntmps21
  go_upto_region 1 with (fail)
  refine name_wp (fun w1 => Below w.heap.size w w1 ∧ w1.heap[w.heap.size]? = some (.cells #[.int .u8 k, .int .u8 f, .int .i64 b, .int .i64 l, .int .i64 W, .int .i64 c] 31 (0, 0))) ⟨(Below.refl _ _).alloc (Nat.le_refl _) _, alloc_at rfl⟩ ?_
  rintro w1 ⟨hb, k0⟩
  obtain ⟨c0, c1, c2, c3, c4, c5⟩ := blk6 k0
  go_wp2_with fail
  refine call_then (hC.out _) ?_
  intro w2 hb2
  replace hb := below_next hb hb.size hb2
  replace k0 := keeps hb2 k0
  clear hb2 c0 c1 c2 c3 c4 c5
  obtain ⟨c0, c1, c2, c3, c4, c5⟩ := blk6 k0
  go_wp2_with fail
  refine call_then (hM.out _) ?_
  intro w2 hb2
  replace hb := below_next hb hb.size hb2
  replace k0 := keeps hb2 k0
  clear hb2 c0 c1 c2 c3 c4 c5
  obtain ⟨c0, c1, c2, c3, c4, c5⟩ := blk6 k0
  go_wp2
  go_ret2
  exact ⟨rfl, hb⟩
theorem enc_fits (x : Ci) (zs : List Int) (A : Option Addr) (N cp : Nat) (h : x.Good) (hN : N = x.measuredN) (hl : zs.length = N) (hm : N ≤ maxLen) (hz : WordsOK zs) (h1 : 1 ≤ N) (hf : fitsB x zs = false) (w : World) (hA : WordsAt w A zs) : Calls Tryd.prog 21 #[cvl x, .slice A N cp] w fun e w' => e = .returned (.tuple #[.slice none 0 0, .int .i64 6]) ∧ Below w.heap.size w w' := by
  have hM := measured_any x h
  have hF := fun w hA => fits_any x h zs A N cp hl h1 hm hz w hA
  rw [hf] at hF
  have hz := h.code
  obtain ⟨k, f, b, l, W, c⟩ := x
  have hC := fun w => ccheck_any k f b l W c w
  unfold cvl NumBy at *
  rw [← hN] at hM
  rw [hz] at hC
  replace hC := Lib.hid hC
  replace hM := Lib.hid hM
  replace hF := Lib.hid hF
  replace hA := Lib.hid hA
  clear h hN hz hf hl h1 hm
  go_enter Tryd.func21, Tryd.ntmps21
  go_upto_region 1 with (fail)
  refine name_wp (fun w1 => Below w.heap.size w w1 ∧ w1.heap[w.heap.size]? = some (.cells #[.int .u8 k, .int .u8 f, .int .i64 b, .int .i64 l, .int .i64 W, .int .i64 c] 31 (0, 0))) ⟨(Below.refl _ _).alloc (Nat.le_refl _) _, alloc_at rfl⟩ ?_
  rintro w1 ⟨hb, k0⟩
  obtain ⟨c0, c1, c2, c3, c4, c5⟩ := blk6 k0
  go_wp2_with fail
  refine call_then (hC.out _) ?_
  intro w2 hb2
  replace hb := below_next hb hb.size hb2
  replace k0 := keeps hb2 k0
  clear hb2 c0 c1 c2 c3 c4 c5
  obtain ⟨c0, c1, c2, c3, c4, c5⟩ := blk6 k0
  go_wp2_with fail
  refine call_then (hM.out _) ?_
  intro w2 hb2
  replace hb := below_next hb hb.size hb2
  replace k0 := keeps hb2 k0
  clear hb2 c0 c1 c2 c3 c4 c5
  obtain ⟨c0, c1, c2, c3, c4, c5⟩ := blk6 k0
  go_wp2_with fail
  refine call_then (hF.out _ (hA.out.up hb)) ?_
  intro w2 hb2
  replace hb := below_next hb hb.size hb2
  replace k0 := keeps hb2 k0
  clear hb2 c0 c1 c2 c3 c4 c5
  obtain ⟨c0, c1, c2, c3, c4, c5⟩ := blk6 k0
  go_wp2
  go_ret2
  exact ⟨rfl, hb⟩
set_option maxHeartbeats 2000000 in
theorem enc_bits (x : Ci) (zs : List Int) (A : Option Addr) (N cp : Nat) (h : x.Good) (hN : N = x.measuredN) (hl : zs.length = N) (hm : N ≤ maxLen) (hz : WordsOK zs) (h1 : 1 ≤ N) (hf : fitsB x zs = true) (h23 : x.k = 2 ∨ x.k = 3) (w : World) (hA : WordsAt w A zs) : Calls Tryd.prog 21 #[cvl x, .slice A N cp] w (EncOut x (encL x zs) w) := by
  have e1 : encL x zs = zs.flatMap (fun z => bitsL z.toNat x.b.toNat) := by unfold encL; rw [if_pos h23]
  rw [e1]
  have hb2 := h.fits.b h23
  have hbits := fun (n : Nat) hn w => bitsOf_any x h n x.b.toNat hn (by omega) w
  have hN64 : N ≤ 64 := by
    rw [hN]; unfold Ci.measuredN Ci.outN
    have := h.fits.l
    split
    · omega
    · split <;> omega
  have hM := measured_any x h
  have hF := fun w hA => fits_any x h zs A N cp hl h1 hm hz w hA
  rw [hf] at hF
  have hz' := h.code
  have hle := h.fits.in_le
  have fb := fb_of h.f
  obtain ⟨k, f, b, l, W, c⟩ := x
  have hC := fun w => ccheck_any k f b l W c w
  have hI := fun w => cin_any k f b l W c h.fits w
  unfold cvl NumBy at *
  rw [← hN] at hM
  rw [hz'] at hC
  simp only at hb2 h23 hbits
  obtain ⟨nb, rfl⟩ := Int.eq_ofNat_of_zero_le (show 0 ≤ b by omega)
  simp only [Int.toNat_natCast] at hbits ⊢
  generalize (Ci.mk k f nb l W c).inN = I at *
  replace hC := Lib.hid hC
  replace hM := Lib.hid hM
  replace hF := Lib.hid hF
  replace hI := Lib.hid hI
  replace hA := Lib.hid hA
  replace hbits := Lib.hid hbits
  replace hz := Lib.hid hz
  replace hl := Lib.hid hl
  obtain ⟨i0, hinf, hz0, hz1, hz2⟩ := info_parts info_elemv
  replace hinf := Lib.hid hinf
  clear h hN hz' hf h1 e1
  have hN2 := hN64
  rcases h23 with rfl | rfl
  · go_enter Tryd.func21, Tryd.ntmps21
    go_upto_region 1 with (fail)
    refine name_wp (fun w1 => Below w.heap.size w w1 ∧ w1.heap[w.heap.size]? = some (.cells #[.int .u8 2, .int .u8 f, .int .i64 (nb : Int), .int .i64 l, .int .i64 W, .int .i64 c] 31 (0, 0))) ⟨(Below.refl _ _).alloc (Nat.le_refl _) _, alloc_at rfl⟩ ?_
    rintro w1 ⟨hb, k0⟩
    obtain ⟨c0, c1, c2, c3, c4, c5⟩ := blk6 k0
    go_wp2_with fail
    refine call_then (hC.out _) ?_
    intro w2 hb2
    replace hb := below_next hb hb.size hb2
    replace k0 := keeps hb2 k0
    clear hb2 c0 c1 c2 c3 c4 c5
    obtain ⟨c0, c1, c2, c3, c4, c5⟩ := blk6 k0
    go_wp2_with fail
    refine call_then (hM.out _) ?_
    intro w2 hb2
    replace hb := below_next hb hb.size hb2
    replace k0 := keeps hb2 k0
    clear hb2 c0 c1 c2 c3 c4 c5
    obtain ⟨c0, c1, c2, c3, c4, c5⟩ := blk6 k0
    go_wp2_with fail
    refine call_then (hF.out _ (hA.out.up hb)) ?_
    intro w2 hb2
    replace hb := below_next hb hb.size hb2
    replace k0 := keeps hb2 k0
    clear hb2 c0 c1 c2 c3 c4 c5
    obtain ⟨c0, c1, c2, c3, c4, c5⟩ := blk6 k0
    go_wp2_with fail
    refine call_then (hI.out _) ?_
    intro w2 hb2
    replace hb := below_next hb hb.size hb2
    replace k0 := keeps hb2 k0
    clear hb2 c0 c1 c2 c3 c4 c5
    obtain ⟨c0, c1, c2, c3, c4, c5⟩ := blk6 k0
    clear hC hM hF hI
    obtain ⟨cur, hmk, hcs⟩ := make_cap I (by omega) w2
    go_upto_region 9 with (fail)
    have hBw := hb.size
    have hpB := lt_of_get k0
    have hm3 := World.ownsRow_made (base := w2.heap.size) w2 cur I (Nat.le_refl _) (by unfold maxLen; omega) hcs (e := 65) (size := 2)
    refine name_wp (fun w3 => Below w.heap.size w w3 ∧ w3.heap[w.heap.size]? = some (.cells #[.int .u8 2, .int .u8 f, .int .i64 (nb : Int), .int .i64 l, .int .i64 W, .int .i64 c] 31 (0, 0)) ∧ w2.heap.size ≤ w3.heap.size ∧ w3.ownsRow w2.heap.size 65 2 (.slice (some ⟨w2.heap.size, 0, none⟩) 0 I) 0 (ecells [])) ⟨hb.alloc hb.size _, alloc_keeps k0, by simp, hm3⟩ ?_
    clear hb k0 hm3 hmk c0 c1 c2 c3 c4 c5
    generalize w2.heap.size = B0 at *
    rintro w3 ⟨hb, k0, hBs, hown⟩
    clear w2
    replace hBw := Lib.hid hBw
    replace hpB := Lib.hid hpB
    obtain ⟨c0, c1, c2, c3, c4, c5⟩ := blk6 k0
    go_wp2
    clear c0 c1 c2 c3 c4 c5
    go_loopw [50, 7] (fun i v wr => ∃ j : Nat, j ≤ N ∧ i = .int .i64 (j : Int) ∧ Below w.heap.size w wr ∧ wr.heap[w.heap.size]? = some (.cells #[.int .u8 2, .int .u8 f, .int .i64 (nb : Int), .int .i64 l, .int .i64 W, .int .i64 c] 31 (0, 0)) ∧ B0 ≤ wr.heap.size ∧ wr.ownsRow B0 65 2 v (j * nb) (ecells ((zs.take j).flatMap (fun z => bitsL z.toNat nb)))) (fun i _ _ => N - (intOf i).toNat)
    case atStart => exact ⟨0, Nat.zero_le _, rfl, hb, k0, hBs, by rw [Nat.zero_mul]; exact hown⟩
    case round =>
      clear hb k0 hown hBs
      obtain ⟨j, hj, rfl, hb, k0, hBs, hown⟩ := hrel
      obtain ⟨c0, c1, c2, c3, c4, c5⟩ := blk6 k0
      by_cases hlt : j < N
      · have j1 : (j : Int) < (N : Int) := by omega
        have j0 : (0 : Int) ≤ (j : Int) := by omega
        obtain ⟨p, o, rfl, hc⟩ := hA.out j (by rw [hl.out]; exact hlt)
        have hc2 := (hb.cell (World.block_lt_of_cell? _ _ hc)).trans hc
        have hx := hz.out.at_ (k := j) (by rw [hl.out]; exact hlt)
        have hsn := Lib.hid (flat_snoc (b := nb) (l := zs) (k := j) (by rw [hl.out]; exact hlt))
        have hjb : j * nb ≤ 64 * 32 := Nat.mul_le_mul (by omega) (by omega)
        have hjn : (j + 1) * nb = j * nb + nb := Nat.succ_mul _ _
        generalize zs.getD j 0 = z at *
        obtain ⟨Z, rfl⟩ := Int.eq_ofNat_of_zero_le hx.1
        rw [Int.toNat_natCast] at hsn
        have hbz := Lib.hid (hbits.out Z (by omega))
        obtain ⟨P, hP⟩ : ∃ P, j * nb = P := ⟨_, rfl⟩
        rw [hP] at hown hjb hjn
        replace hjn := Lib.hid hjn
        replace hP := Lib.hid hP
        clear hc
        go_wp2_with fail
        refine (hbz.out _).mono ?_
        rintro e w4 ⟨g, rfl, hb4, hg4, hrow⟩
        have hown4 := ownsn_up hown hb4
        have hb5 := below_next hb hb.size hb4
        have k5 := keeps hb4 k0
        have hBs5 := Nat.le_trans hBs hb4.size
        have hnews := row_news hrow
        have hlen : (ecells (bitsL Z nb)).length = nb * 2 := by rw [ecells_length, bitsL_length]
        have t1 : P + nb ≤ maxLen := by unfold maxLen; omega
        have t2 : (P + nb) * 16 ≤ 140737488355328 := by omega
        replace hown4 := Lib.hid hown4
        replace hnews := Lib.hid hnews
        replace hlen := Lib.hid hlen
        replace hb5 := Lib.hid hb5
        replace k5 := Lib.hid k5
        clear hown hb4 hb k0 hBs hbz c0 c1 c2 c3 c4 c5 hrow hg4
        go_wp2_with (at_builtin; refine wpList_append_own _ rfl _ _ 35 rfl B0 65 i0 (.agg #[.int .u64 0, .int .u64 0]) 2 16 Tryd.underlying35 hinf.out hz0 hz1 hz2 rfl (by decide) _ _ _ rfl hown4.out ⟨g, 0, none⟩ nb nb (ecells (bitsL Z nb)) rfl hlen.out hnews.out (ecells_one _) t1 t2 hBs5 ?_; intro v1 w6 hown6 hg6 _; have hb6 := grownn_below hb5.out hBw.out hown4.out hg6; have k6 := (hg6.block w.heap.size (lt_of_get k5.out) (fun e => by have := (hown4.out.lt _ e.symm).1; have := hpB.out; omega)).trans k5.out; have hBs6 := Nat.le_trans hBs5 hg6.size; clear hg6)
        refine ⟨⟨j + 1, by omega, by go_num, hb6, k6, hBs6, ?_⟩, by simp [intOf]; omega⟩
        rw [hjn.out, hsn.out]
        exact hown6
      · obtain rfl : N = j := by omega
        rw [List.take_of_length_le (by rw [hl.out]; exact Nat.le_refl _)] at hown
        obtain ⟨a9, c9, rfl, hel, hlc, hfr⟩ := owns_out hown
        obtain ⟨L, hL⟩ : ∃ L, zs.flatMap (fun z => bitsL z.toNat nb) = L := ⟨_, rfl⟩
        rw [hL] at hel hlc ⊢
        replace hL := Lib.hid hL
        replace hel := Lib.hid hel
        replace hlc := Lib.hid hlc
        replace hfr := Lib.hid hfr
        clear hown
        have j1 : ¬ (N : Int) < (N : Int) := by omega
        go_wp2
        go_ret2
        rw [hL.out]
        exact ⟨_, _, rfl, hb, hel.out, hlc.out, fun a e => Nat.le_trans hBw.out (hfr.out a e)⟩
  · go_enter Tryd.func21, Tryd.ntmps21
    go_upto_region 1 with (fail)
    refine name_wp (fun w1 => Below w.heap.size w w1 ∧ w1.heap[w.heap.size]? = some (.cells #[.int .u8 3, .int .u8 f, .int .i64 (nb : Int), .int .i64 l, .int .i64 W, .int .i64 c] 31 (0, 0))) ⟨(Below.refl _ _).alloc (Nat.le_refl _) _, alloc_at rfl⟩ ?_
    rintro w1 ⟨hb, k0⟩
    obtain ⟨c0, c1, c2, c3, c4, c5⟩ := blk6 k0
    go_wp2_with fail
    refine call_then (hC.out _) ?_
    intro w2 hb2
    replace hb := below_next hb hb.size hb2
    replace k0 := keeps hb2 k0
    clear hb2 c0 c1 c2 c3 c4 c5
    obtain ⟨c0, c1, c2, c3, c4, c5⟩ := blk6 k0
    go_wp2_with fail
    refine call_then (hM.out _) ?_
    intro w2 hb2
    replace hb := below_next hb hb.size hb2
    replace k0 := keeps hb2 k0
    clear hb2 c0 c1 c2 c3 c4 c5
    obtain ⟨c0, c1, c2, c3, c4, c5⟩ := blk6 k0
    go_wp2_with fail
    refine call_then (hF.out _ (hA.out.up hb)) ?_
    intro w2 hb2
    replace hb := below_next hb hb.size hb2
    replace k0 := keeps hb2 k0
    clear hb2 c0 c1 c2 c3 c4 c5
    obtain ⟨c0, c1, c2, c3, c4, c5⟩ := blk6 k0
    go_wp2_with fail
    refine call_then (hI.out _) ?_
    intro w2 hb2
    replace hb := below_next hb hb.size hb2
    replace k0 := keeps hb2 k0
    clear hb2 c0 c1 c2 c3 c4 c5
    obtain ⟨c0, c1, c2, c3, c4, c5⟩ := blk6 k0
    clear hC hM hF hI
    obtain ⟨cur, hmk, hcs⟩ := make_cap I (by omega) w2
    go_upto_region 9 with (fail)
    have hBw := hb.size
    have hpB := lt_of_get k0
    have hm3 := World.ownsRow_made (base := w2.heap.size) w2 cur I (Nat.le_refl _) (by unfold maxLen; omega) hcs (e := 65) (size := 2)
    refine name_wp (fun w3 => Below w.heap.size w w3 ∧ w3.heap[w.heap.size]? = some (.cells #[.int .u8 3, .int .u8 f, .int .i64 (nb : Int), .int .i64 l, .int .i64 W, .int .i64 c] 31 (0, 0)) ∧ w2.heap.size ≤ w3.heap.size ∧ w3.ownsRow w2.heap.size 65 2 (.slice (some ⟨w2.heap.size, 0, none⟩) 0 I) 0 (ecells [])) ⟨hb.alloc hb.size _, alloc_keeps k0, by simp, hm3⟩ ?_
    clear hb k0 hm3 hmk c0 c1 c2 c3 c4 c5
    generalize w2.heap.size = B0 at *
    rintro w3 ⟨hb, k0, hBs, hown⟩
    clear w2
    replace hBw := Lib.hid hBw
    replace hpB := Lib.hid hpB
    obtain ⟨c0, c1, c2, c3, c4, c5⟩ := blk6 k0
    go_wp2
    clear c0 c1 c2 c3 c4 c5
    go_loopw [50, 7] (fun i v wr => ∃ j : Nat, j ≤ N ∧ i = .int .i64 (j : Int) ∧ Below w.heap.size w wr ∧ wr.heap[w.heap.size]? = some (.cells #[.int .u8 3, .int .u8 f, .int .i64 (nb : Int), .int .i64 l, .int .i64 W, .int .i64 c] 31 (0, 0)) ∧ B0 ≤ wr.heap.size ∧ wr.ownsRow B0 65 2 v (j * nb) (ecells ((zs.take j).flatMap (fun z => bitsL z.toNat nb)))) (fun i _ _ => N - (intOf i).toNat)
    case atStart => exact ⟨0, Nat.zero_le _, rfl, hb, k0, hBs, by rw [Nat.zero_mul]; exact hown⟩
    case round =>
      clear hb k0 hown hBs
      obtain ⟨j, hj, rfl, hb, k0, hBs, hown⟩ := hrel
      obtain ⟨c0, c1, c2, c3, c4, c5⟩ := blk6 k0
      by_cases hlt : j < N
      · have j1 : (j : Int) < (N : Int) := by omega
        have j0 : (0 : Int) ≤ (j : Int) := by omega
        obtain ⟨p, o, rfl, hc⟩ := hA.out j (by rw [hl.out]; exact hlt)
        have hc2 := (hb.cell (World.block_lt_of_cell? _ _ hc)).trans hc
        have hx := hz.out.at_ (k := j) (by rw [hl.out]; exact hlt)
        have hsn := Lib.hid (flat_snoc (b := nb) (l := zs) (k := j) (by rw [hl.out]; exact hlt))
        have hjb : j * nb ≤ 64 * 32 := Nat.mul_le_mul (by omega) (by omega)
        have hjn : (j + 1) * nb = j * nb + nb := Nat.succ_mul _ _
        generalize zs.getD j 0 = z at *
        obtain ⟨Z, rfl⟩ := Int.eq_ofNat_of_zero_le hx.1
        rw [Int.toNat_natCast] at hsn
        have hbz := Lib.hid (hbits.out Z (by omega))
        obtain ⟨P, hP⟩ : ∃ P, j * nb = P := ⟨_, rfl⟩
        rw [hP] at hown hjb hjn
        replace hjn := Lib.hid hjn
        replace hP := Lib.hid hP
        clear hc
        go_wp2_with fail
        refine (hbz.out _).mono ?_
        rintro e w4 ⟨g, rfl, hb4, hg4, hrow⟩
        have hown4 := ownsn_up hown hb4
        have hb5 := below_next hb hb.size hb4
        have k5 := keeps hb4 k0
        have hBs5 := Nat.le_trans hBs hb4.size
        have hnews := row_news hrow
        have hlen : (ecells (bitsL Z nb)).length = nb * 2 := by rw [ecells_length, bitsL_length]
        have t1 : P + nb ≤ maxLen := by unfold maxLen; omega
        have t2 : (P + nb) * 16 ≤ 140737488355328 := by omega
        replace hown4 := Lib.hid hown4
        replace hnews := Lib.hid hnews
        replace hlen := Lib.hid hlen
        replace hb5 := Lib.hid hb5
        replace k5 := Lib.hid k5
        clear hown hb4 hb k0 hBs hbz c0 c1 c2 c3 c4 c5 hrow hg4
        go_wp2_with (at_builtin; refine wpList_append_own _ rfl _ _ 35 rfl B0 65 i0 (.agg #[.int .u64 0, .int .u64 0]) 2 16 Tryd.underlying35 hinf.out hz0 hz1 hz2 rfl (by decide) _ _ _ rfl hown4.out ⟨g, 0, none⟩ nb nb (ecells (bitsL Z nb)) rfl hlen.out hnews.out (ecells_one _) t1 t2 hBs5 ?_; intro v1 w6 hown6 hg6 _; have hb6 := grownn_below hb5.out hBw.out hown4.out hg6; have k6 := (hg6.block w.heap.size (lt_of_get k5.out) (fun e => by have := (hown4.out.lt _ e.symm).1; have := hpB.out; omega)).trans k5.out; have hBs6 := Nat.le_trans hBs5 hg6.size; clear hg6)
        refine ⟨⟨j + 1, by omega, by go_num, hb6, k6, hBs6, ?_⟩, by simp [intOf]; omega⟩
        rw [hjn.out, hsn.out]
        exact hown6
      · obtain rfl : N = j := by omega
        rw [List.take_of_length_le (by rw [hl.out]; exact Nat.le_refl _)] at hown
        obtain ⟨a9, c9, rfl, hel, hlc, hfr⟩ := owns_out hown
        obtain ⟨L, hL⟩ : ∃ L, zs.flatMap (fun z => bitsL z.toNat nb) = L := ⟨_, rfl⟩
        rw [hL] at hel hlc ⊢
        replace hL := Lib.hid hL
        replace hel := Lib.hid hel
        replace hlc := Lib.hid hlc
        replace hfr := Lib.hid hfr
        clear hown
        have j1 : ¬ (N : Int) < (N : Int) := by omega
        go_wp2
        go_ret2
        rw [hL.out]
        exact ⟨_, _, rfl, hb, hel.out, hlc.out, fun a e => Nat.le_trans hBw.out (hfr.out a e)⟩
end Go.Proofs.YtpojhomccmfffaaDoor
