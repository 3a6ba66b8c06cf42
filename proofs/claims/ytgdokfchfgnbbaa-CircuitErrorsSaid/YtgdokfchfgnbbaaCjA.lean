/-
  How many elements all of a right circuit has, on both sides.
-/
import Derived.Test.YtgdokfchfgnbbaaCiG
import Derived.Test.YtgdokfchfgnbbaaCiH
namespace Go.Proofs.Ytgdokfchfgnbbaa
open Go.RowKit Flow
set_option linter.unusedVariables false
set_option linter.unusedSimpArgs false

/-- A circuit's numbers, the program's and the document's. -/
def cvl (x : Ci) : Value := .agg #[.int .u8 x.k, .int .u8 x.f, .int .i64 x.b, .int .i64 x.l, .int .i64 x.w, .int .i64 x.c]
def rvl (x : Ci) : Value := .agg #[.int .i64 x.k, .int .i64 x.f, .int .i64 x.b, .int .i64 x.l, .int .i64 x.w, .int .i64 x.c]
structure Ci.Good (x : Ci) : Prop where
  f : x.f = 1 ∨ x.f = 2
  fits : x.Fits
  calls : x.callsN ≤ 511
theorem Ci.good {x : Ci} (h : x.code = 0) : x.Good := by
  unfold Ci.code at h
  by_cases hf : x.f = 1 ∨ x.f = 2
  · rw [if_pos hf] at h
    by_cases hk : 1 ≤ x.k ∧ x.k ≤ 5
    · rw [if_pos hk] at h
      by_cases ht : x.fit = true
      · rw [if_pos ht] at h
        by_cases hc : 511 < x.callsN
        · rw [if_pos hc] at h; omega
        · exact ⟨hf, Ci.fits hk.1 hk.2 ht, by omega⟩
      · rw [if_neg ht] at h; omega
    · rw [if_neg hk] at h; omega
  · rw [if_neg hf] at h; omega
theorem Ci.Fits.fit {x : Ci} (h : x.Fits) : x.fit = true := by
  unfold Ci.fit inside
  have hk := h.k1
  have hk5 := h.k5
  have h5 : x.k = 1 ∨ x.k = 2 ∨ x.k = 3 ∨ x.k = 4 ∨ x.k = 5 := by omega
  rcases h5 with e | e | e | e | e
  · have b0 := h.b0 (by omega); have l0 := h.l0 (by omega); have w0 := h.w0 (by omega); have c0 := h.c0 (by omega)
    simp [e, b0, l0, w0, c0]
  · have b0 := h.b (by omega); have l0 := h.l0 (by omega); have w0 := h.w0 (by omega); have c0 := h.c0 (by omega)
    simp [e, b0, l0, w0, c0]
  · have b0 := h.b (by omega); have l0 := h.l (by omega); have w0 := h.w0 (by omega); have c0 := h.c (by omega)
    simp [e, b0, l0, w0, c0]
  · have b0 := h.b0 (by omega); have l0 := h.l (by omega); have w0 := h.w0 (by omega); have c0 := h.c (by omega)
    simp [e, b0, l0, w0, c0]
  · have b0 := h.b0 (by omega); have l0 := h.l (by omega); have w0 := h.w (by omega); have c0 := h.c (by omega)
    simp [e, b0, l0, w0, c0]
theorem Ci.Good.code {x : Ci} (h : x.Good) : x.code = 0 := by
  unfold Ci.code
  rw [if_pos h.f, if_pos ⟨h.fits.k1, h.fits.k5⟩, if_pos h.fits.fit, if_neg (by have := h.calls; omega)]
def Ci.outN (x : Ci) : Nat := if x.k = 1 ∨ x.k = 2 then 1 else x.l.toNat
def Ci.jointN (x : Ci) : Nat := if x.k = 1 then 0 else if x.k = 2 then 1 else if x.k = 3 then x.callsN else x.callsN + 1
def Ci.mostN (x : Ci) : Nat := if x.k = 2 ∨ x.k = 3 then 2 ^ x.b.toNat - 1 else 1
def Ci.arityN (x : Ci) : Nat := if x.k = 1 then 2 else if x.k = 2 then 1 else 2 * x.c.toNat
/-- Contracts of numbers of a circuit. -/
def NumBy (F : FuncId) (v : Value) (n : Nat) : Prop := ∀ w, Calls Try.prog F #[v] w fun e w' => e = .returned (.int .i64 (n : Int)) ∧ Below w.heap.size w w'
theorem right_any (x : Ci) (w : World) : Calls Try.prog 59 #[cvl x] w fun e w' => e = .returned (.bool (decide (x.code = 0))) ∧ Below w.heap.size w w' := by
  obtain ⟨k, f, b, l, W, c⟩ := x
  unfold cvl
  have hC := fun w => ccheck_any k f b l W c w
  have hd : ∀ z : Int, (z == 0) = decide (z = 0) := fun z => rfl
  generalize (Ci.mk k f b l W c).code = z at *
  by_cases h : z = 0
  · subst h
    replace hC := Lib.hid hC
    clear hd
    go_enter Try.func59, Try.ntmps59
    go_upto_region 1 with (fail)
    refine name_wp (fun w1 => Below w.heap.size w w1 ∧ w1.heap[w.heap.size]? = some (.cells #[.int .u8 k, .int .u8 f, .int .i64 b, .int .i64 l, .int .i64 W, .int .i64 c] 25 (0, 0))) ⟨(Below.refl _ _).alloc (Nat.le_refl _) _, alloc_at rfl⟩ ?_
    rintro w1 ⟨hb, k0⟩
    obtain ⟨c0, c1, c2, c3, c4, c5⟩ := blk6 k0
    go_wp2_with fail
    refine call_then (hC.out _) ?_
    intro w2 hb2
    replace hb := below_next hb hb.size hb2
    replace k0 := keeps hb2 k0
    clear hb2 c0 c1 c2 c3 c4 c5
    obtain ⟨c0, c1, c2, c3, c4, c5⟩ := blk6 k0
    go_wp2
    go_ret
    exact ⟨rfl, hb⟩
  · have h1 : (z == 0) = false := by simpa using h
    have h2 : decide (z = 0) = false := by simpa using h
    rw [h2]
    replace hC := Lib.hid hC
    clear hd h h2
    go_enter Try.func59, Try.ntmps59
    go_upto_region 1 with (fail)
    refine name_wp (fun w1 => Below w.heap.size w w1 ∧ w1.heap[w.heap.size]? = some (.cells #[.int .u8 k, .int .u8 f, .int .i64 b, .int .i64 l, .int .i64 W, .int .i64 c] 25 (0, 0))) ⟨(Below.refl _ _).alloc (Nat.le_refl _) _, alloc_at rfl⟩ ?_
    rintro w1 ⟨hb, k0⟩
    obtain ⟨c0, c1, c2, c3, c4, c5⟩ := blk6 k0
    go_wp2_with fail
    refine call_then (hC.out _) ?_
    intro w2 hb2
    replace hb := below_next hb hb.size hb2
    replace k0 := keeps hb2 k0
    clear hb2 c0 c1 c2 c3 c4 c5
    obtain ⟨c0, c1, c2, c3, c4, c5⟩ := blk6 k0
    go_wp2
    go_ret
    exact ⟨by first | rfl | simp [h1], hb⟩
theorem right_good {x : Ci} (h : x.Good) (w : World) : Calls Try.prog 59 #[cvl x] w fun e w' => e = .returned (.bool true) ∧ Below w.heap.size w w' := (right_any x w).mono fun e w' ⟨he, hb⟩ => ⟨by rw [he, decide_eq_true h.code], hb⟩
theorem out_any (x : Ci) (h : x.Good) : NumBy 17 (cvl x) x.outN := by
  intro w
  obtain ⟨k, f, b, l, W, c⟩ := x
  have hR := Lib.hid (right_good h)
  have hl := h.fits.l
  have hk : k = 1 ∨ k = 2 ∨ k = 3 ∨ k = 4 ∨ k = 5 := by have := h.fits.k1; have := h.fits.k5; simp only at *; omega
  unfold cvl at *
  simp only at hl
  rcases hk with rfl | rfl | rfl | rfl | rfl
  · rw [show (Ci.mk 1 f b l W c).outN = 1 by simp [Ci.outN]]
    clear hl h
    go_enter Try.func17, Try.ntmps17
    go_upto_region 1 with (fail)
    refine name_wp (fun w1 => Below w.heap.size w w1 ∧ w1.heap[w.heap.size]? = some (.cells #[.int .u8 1, .int .u8 f, .int .i64 b, .int .i64 l, .int .i64 W, .int .i64 c] 25 (0, 0))) ⟨(Below.refl _ _).alloc (Nat.le_refl _) _, alloc_at rfl⟩ ?_
    rintro w1 ⟨hb, k0⟩
    obtain ⟨c0, c1, c2, c3, c4, c5⟩ := blk6 k0
    go_wp2_with fail
    refine call_then (hR.out _) ?_
    intro w2 hb2
    replace hb := below_next hb hb.size hb2
    replace k0 := keeps hb2 k0
    clear hb2 c0 c1 c2 c3 c4 c5
    obtain ⟨c0, c1, c2, c3, c4, c5⟩ := blk6 k0
    go_wp2
    go_ret
    exact ⟨rfl, hb⟩
  · rw [show (Ci.mk 2 f b l W c).outN = 1 by simp [Ci.outN]]
    clear hl h
    go_enter Try.func17, Try.ntmps17
    go_upto_region 1 with (fail)
    refine name_wp (fun w1 => Below w.heap.size w w1 ∧ w1.heap[w.heap.size]? = some (.cells #[.int .u8 2, .int .u8 f, .int .i64 b, .int .i64 l, .int .i64 W, .int .i64 c] 25 (0, 0))) ⟨(Below.refl _ _).alloc (Nat.le_refl _) _, alloc_at rfl⟩ ?_
    rintro w1 ⟨hb, k0⟩
    obtain ⟨c0, c1, c2, c3, c4, c5⟩ := blk6 k0
    go_wp2_with fail
    refine call_then (hR.out _) ?_
    intro w2 hb2
    replace hb := below_next hb hb.size hb2
    replace k0 := keeps hb2 k0
    clear hb2 c0 c1 c2 c3 c4 c5
    obtain ⟨c0, c1, c2, c3, c4, c5⟩ := blk6 k0
    go_wp2
    go_ret
    exact ⟨rfl, hb⟩
  · rw [show ((Ci.mk 3 f b l W c).outN : Int) = l by have := hl (by omega); simp [Ci.outN]; omega]
    clear hl h
    go_enter Try.func17, Try.ntmps17
    go_upto_region 1 with (fail)
    refine name_wp (fun w1 => Below w.heap.size w w1 ∧ w1.heap[w.heap.size]? = some (.cells #[.int .u8 3, .int .u8 f, .int .i64 b, .int .i64 l, .int .i64 W, .int .i64 c] 25 (0, 0))) ⟨(Below.refl _ _).alloc (Nat.le_refl _) _, alloc_at rfl⟩ ?_
    rintro w1 ⟨hb, k0⟩
    obtain ⟨c0, c1, c2, c3, c4, c5⟩ := blk6 k0
    go_wp2_with fail
    refine call_then (hR.out _) ?_
    intro w2 hb2
    replace hb := below_next hb hb.size hb2
    replace k0 := keeps hb2 k0
    clear hb2 c0 c1 c2 c3 c4 c5
    obtain ⟨c0, c1, c2, c3, c4, c5⟩ := blk6 k0
    go_wp2
    go_ret
    exact ⟨rfl, hb⟩
  · rw [show ((Ci.mk 4 f b l W c).outN : Int) = l by have := hl (by omega); simp [Ci.outN]; omega]
    clear hl h
    go_enter Try.func17, Try.ntmps17
    go_upto_region 1 with (fail)
    refine name_wp (fun w1 => Below w.heap.size w w1 ∧ w1.heap[w.heap.size]? = some (.cells #[.int .u8 4, .int .u8 f, .int .i64 b, .int .i64 l, .int .i64 W, .int .i64 c] 25 (0, 0))) ⟨(Below.refl _ _).alloc (Nat.le_refl _) _, alloc_at rfl⟩ ?_
    rintro w1 ⟨hb, k0⟩
    obtain ⟨c0, c1, c2, c3, c4, c5⟩ := blk6 k0
    go_wp2_with fail
    refine call_then (hR.out _) ?_
    intro w2 hb2
    replace hb := below_next hb hb.size hb2
    replace k0 := keeps hb2 k0
    clear hb2 c0 c1 c2 c3 c4 c5
    obtain ⟨c0, c1, c2, c3, c4, c5⟩ := blk6 k0
    go_wp2
    go_ret
    exact ⟨rfl, hb⟩
  · rw [show ((Ci.mk 5 f b l W c).outN : Int) = l by have := hl (by omega); simp [Ci.outN]; omega]
    clear hl h
    go_enter Try.func17, Try.ntmps17
    go_upto_region 1 with (fail)
    refine name_wp (fun w1 => Below w.heap.size w w1 ∧ w1.heap[w.heap.size]? = some (.cells #[.int .u8 5, .int .u8 f, .int .i64 b, .int .i64 l, .int .i64 W, .int .i64 c] 25 (0, 0))) ⟨(Below.refl _ _).alloc (Nat.le_refl _) _, alloc_at rfl⟩ ?_
    rintro w1 ⟨hb, k0⟩
    obtain ⟨c0, c1, c2, c3, c4, c5⟩ := blk6 k0
    go_wp2_with fail
    refine call_then (hR.out _) ?_
    intro w2 hb2
    replace hb := below_next hb hb.size hb2
    replace k0 := keeps hb2 k0
    clear hb2 c0 c1 c2 c3 c4 c5
    obtain ⟨c0, c1, c2, c3, c4, c5⟩ := blk6 k0
    go_wp2
    go_ret
    exact ⟨rfl, hb⟩
theorem inup_any (x : Ci) (h : x.Good) : NumBy 15 (cvl x) x.inN := by
  intro w
  obtain ⟨k, f, b, l, W, c⟩ := x
  have hR := Lib.hid (right_good h)
  have hI := fun w => cin_any k f b l W c h.fits w
  unfold cvl at *
  generalize (Ci.mk k f b l W c).inN = N at *
  replace hI := Lib.hid hI
  clear h
  go_enter Try.func15, Try.ntmps15
  go_upto_region 1 with (fail)
  refine name_wp (fun w1 => Below w.heap.size w w1 ∧ w1.heap[w.heap.size]? = some (.cells #[.int .u8 k, .int .u8 f, .int .i64 b, .int .i64 l, .int .i64 W, .int .i64 c] 25 (0, 0))) ⟨(Below.refl _ _).alloc (Nat.le_refl _) _, alloc_at rfl⟩ ?_
  rintro w1 ⟨hb, k0⟩
  obtain ⟨c0, c1, c2, c3, c4, c5⟩ := blk6 k0
  go_wp2_with fail
  refine call_then (hR.out _) ?_
  intro w2 hb2
  replace hb := below_next hb hb.size hb2
  replace k0 := keeps hb2 k0
  clear hb2 c0 c1 c2 c3 c4 c5
  obtain ⟨c0, c1, c2, c3, c4, c5⟩ := blk6 k0
  go_wp2_with fail
  refine call_then (hI.out _) ?_
  intro w2 hb2
  replace hb := below_next hb hb.size hb2
  replace k0 := keeps hb2 k0
  clear hb2 c0 c1 c2 c3 c4 c5
  obtain ⟨c0, c1, c2, c3, c4, c5⟩ := blk6 k0
  go_wp2
  go_ret
  exact ⟨rfl, hb⟩
theorem callsup_any (x : Ci) (h : x.Good) : NumBy 19 (cvl x) x.callsN := by
  intro w
  obtain ⟨k, f, b, l, W, c⟩ := x
  have hR := Lib.hid (right_good h)
  have hI := fun w => ccalls_any k f b l W c h.fits w
  unfold cvl at *
  generalize (Ci.mk k f b l W c).callsN = N at *
  replace hI := Lib.hid hI
  clear h
  go_enter Try.func19, Try.ntmps19
  go_upto_region 1 with (fail)
  refine name_wp (fun w1 => Below w.heap.size w w1 ∧ w1.heap[w.heap.size]? = some (.cells #[.int .u8 k, .int .u8 f, .int .i64 b, .int .i64 l, .int .i64 W, .int .i64 c] 25 (0, 0))) ⟨(Below.refl _ _).alloc (Nat.le_refl _) _, alloc_at rfl⟩ ?_
  rintro w1 ⟨hb, k0⟩
  obtain ⟨c0, c1, c2, c3, c4, c5⟩ := blk6 k0
  go_wp2_with fail
  refine call_then (hR.out _) ?_
  intro w2 hb2
  replace hb := below_next hb hb.size hb2
  replace k0 := keeps hb2 k0
  clear hb2 c0 c1 c2 c3 c4 c5
  obtain ⟨c0, c1, c2, c3, c4, c5⟩ := blk6 k0
  go_wp2_with fail
  refine call_then (hI.out _) ?_
  intro w2 hb2
  replace hb := below_next hb hb.size hb2
  replace k0 := keeps hb2 k0
  clear hb2 c0 c1 c2 c3 c4 c5
  obtain ⟨c0, c1, c2, c3, c4, c5⟩ := blk6 k0
  go_wp2
  go_ret
  exact ⟨rfl, hb⟩
theorem joint_any (x : Ci) (h : x.Good) : NumBy 21 (cvl x) x.jointN := by
  intro w
  obtain ⟨k, f, b, l, W, c⟩ := x
  have hR := Lib.hid (right_good h)
  have hI := fun w => ccalls_any k f b l W c h.fits w
  have hle := h.calls
  have hk : k = 1 ∨ k = 2 ∨ k = 3 ∨ k = 4 ∨ k = 5 := by have := h.fits.k1; have := h.fits.k5; simp only at *; omega
  unfold cvl at *
  rcases hk with rfl | rfl | rfl | rfl | rfl
  · rw [show (Ci.mk 1 f b l W c).jointN = 0 by simp [Ci.jointN]]
    clear h
    generalize (Ci.mk 1 f b l W c).callsN = N at *
    have zN : IntKind.i64.wrap ((N : Int) + 1) = ((N + 1 : Nat) : Int) := wrap_i (by omega) (by omega)
    replace hI := Lib.hid hI
    go_enter Try.func21, Try.ntmps21
    go_upto_region 1 with (fail)
    refine name_wp (fun w1 => Below w.heap.size w w1 ∧ w1.heap[w.heap.size]? = some (.cells #[.int .u8 1, .int .u8 f, .int .i64 b, .int .i64 l, .int .i64 W, .int .i64 c] 25 (0, 0))) ⟨(Below.refl _ _).alloc (Nat.le_refl _) _, alloc_at rfl⟩ ?_
    rintro w1 ⟨hb, k0⟩
    obtain ⟨c0, c1, c2, c3, c4, c5⟩ := blk6 k0
    go_wp2_with fail
    refine call_then (hR.out _) ?_
    intro w2 hb2
    replace hb := below_next hb hb.size hb2
    replace k0 := keeps hb2 k0
    clear hb2 c0 c1 c2 c3 c4 c5
    obtain ⟨c0, c1, c2, c3, c4, c5⟩ := blk6 k0
    go_wp2
    go_ret
    exact ⟨rfl, hb⟩
  · rw [show (Ci.mk 2 f b l W c).jointN = 1 by simp [Ci.jointN]]
    clear h
    generalize (Ci.mk 2 f b l W c).callsN = N at *
    have zN : IntKind.i64.wrap ((N : Int) + 1) = ((N + 1 : Nat) : Int) := wrap_i (by omega) (by omega)
    replace hI := Lib.hid hI
    go_enter Try.func21, Try.ntmps21
    go_upto_region 1 with (fail)
    refine name_wp (fun w1 => Below w.heap.size w w1 ∧ w1.heap[w.heap.size]? = some (.cells #[.int .u8 2, .int .u8 f, .int .i64 b, .int .i64 l, .int .i64 W, .int .i64 c] 25 (0, 0))) ⟨(Below.refl _ _).alloc (Nat.le_refl _) _, alloc_at rfl⟩ ?_
    rintro w1 ⟨hb, k0⟩
    obtain ⟨c0, c1, c2, c3, c4, c5⟩ := blk6 k0
    go_wp2_with fail
    refine call_then (hR.out _) ?_
    intro w2 hb2
    replace hb := below_next hb hb.size hb2
    replace k0 := keeps hb2 k0
    clear hb2 c0 c1 c2 c3 c4 c5
    obtain ⟨c0, c1, c2, c3, c4, c5⟩ := blk6 k0
    go_wp2
    go_ret
    exact ⟨rfl, hb⟩
  · rw [show (Ci.mk 3 f b l W c).jointN = (Ci.mk 3 f b l W c).callsN by simp [Ci.jointN]]
    clear h
    generalize (Ci.mk 3 f b l W c).callsN = N at *
    have zN : IntKind.i64.wrap ((N : Int) + 1) = ((N + 1 : Nat) : Int) := wrap_i (by omega) (by omega)
    replace hI := Lib.hid hI
    go_enter Try.func21, Try.ntmps21
    go_upto_region 1 with (fail)
    refine name_wp (fun w1 => Below w.heap.size w w1 ∧ w1.heap[w.heap.size]? = some (.cells #[.int .u8 3, .int .u8 f, .int .i64 b, .int .i64 l, .int .i64 W, .int .i64 c] 25 (0, 0))) ⟨(Below.refl _ _).alloc (Nat.le_refl _) _, alloc_at rfl⟩ ?_
    rintro w1 ⟨hb, k0⟩
    obtain ⟨c0, c1, c2, c3, c4, c5⟩ := blk6 k0
    go_wp2_with fail
    refine call_then (hR.out _) ?_
    intro w2 hb2
    replace hb := below_next hb hb.size hb2
    replace k0 := keeps hb2 k0
    clear hb2 c0 c1 c2 c3 c4 c5
    obtain ⟨c0, c1, c2, c3, c4, c5⟩ := blk6 k0
    go_wp2_with fail
    refine call_then (hI.out _) ?_
    intro w2 hb2
    replace hb := below_next hb hb.size hb2
    replace k0 := keeps hb2 k0
    clear hb2 c0 c1 c2 c3 c4 c5
    obtain ⟨c0, c1, c2, c3, c4, c5⟩ := blk6 k0
    go_wp2
    go_ret
    exact ⟨rfl, hb⟩
  · rw [show (Ci.mk 4 f b l W c).jointN = (Ci.mk 4 f b l W c).callsN + 1 by simp [Ci.jointN]]
    clear h
    generalize (Ci.mk 4 f b l W c).callsN = N at *
    have zN : IntKind.i64.wrap ((N : Int) + 1) = ((N + 1 : Nat) : Int) := wrap_i (by omega) (by omega)
    replace hI := Lib.hid hI
    go_enter Try.func21, Try.ntmps21
    go_upto_region 1 with (fail)
    refine name_wp (fun w1 => Below w.heap.size w w1 ∧ w1.heap[w.heap.size]? = some (.cells #[.int .u8 4, .int .u8 f, .int .i64 b, .int .i64 l, .int .i64 W, .int .i64 c] 25 (0, 0))) ⟨(Below.refl _ _).alloc (Nat.le_refl _) _, alloc_at rfl⟩ ?_
    rintro w1 ⟨hb, k0⟩
    obtain ⟨c0, c1, c2, c3, c4, c5⟩ := blk6 k0
    go_wp2_with fail
    refine call_then (hR.out _) ?_
    intro w2 hb2
    replace hb := below_next hb hb.size hb2
    replace k0 := keeps hb2 k0
    clear hb2 c0 c1 c2 c3 c4 c5
    obtain ⟨c0, c1, c2, c3, c4, c5⟩ := blk6 k0
    go_wp2_with fail
    refine call_then (hI.out _) ?_
    intro w2 hb2
    replace hb := below_next hb hb.size hb2
    replace k0 := keeps hb2 k0
    clear hb2 c0 c1 c2 c3 c4 c5
    obtain ⟨c0, c1, c2, c3, c4, c5⟩ := blk6 k0
    go_wp2
    go_ret
    exact ⟨rfl, hb⟩
  · rw [show (Ci.mk 5 f b l W c).jointN = (Ci.mk 5 f b l W c).callsN + 1 by simp [Ci.jointN]]
    clear h
    generalize (Ci.mk 5 f b l W c).callsN = N at *
    have zN : IntKind.i64.wrap ((N : Int) + 1) = ((N + 1 : Nat) : Int) := wrap_i (by omega) (by omega)
    replace hI := Lib.hid hI
    go_enter Try.func21, Try.ntmps21
    go_upto_region 1 with (fail)
    refine name_wp (fun w1 => Below w.heap.size w w1 ∧ w1.heap[w.heap.size]? = some (.cells #[.int .u8 5, .int .u8 f, .int .i64 b, .int .i64 l, .int .i64 W, .int .i64 c] 25 (0, 0))) ⟨(Below.refl _ _).alloc (Nat.le_refl _) _, alloc_at rfl⟩ ?_
    rintro w1 ⟨hb, k0⟩
    obtain ⟨c0, c1, c2, c3, c4, c5⟩ := blk6 k0
    go_wp2_with fail
    refine call_then (hR.out _) ?_
    intro w2 hb2
    replace hb := below_next hb hb.size hb2
    replace k0 := keeps hb2 k0
    clear hb2 c0 c1 c2 c3 c4 c5
    obtain ⟨c0, c1, c2, c3, c4, c5⟩ := blk6 k0
    go_wp2_with fail
    refine call_then (hI.out _) ?_
    intro w2 hb2
    replace hb := below_next hb hb.size hb2
    replace k0 := keeps hb2 k0
    clear hb2 c0 c1 c2 c3 c4 c5
    obtain ⟨c0, c1, c2, c3, c4, c5⟩ := blk6 k0
    go_wp2
    go_ret
    exact ⟨rfl, hb⟩
end Go.Proofs.Ytgdokfchfgnbbaa
