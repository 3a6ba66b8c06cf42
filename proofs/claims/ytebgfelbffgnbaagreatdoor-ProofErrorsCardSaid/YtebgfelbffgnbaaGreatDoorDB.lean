import Derived.Test.YtebgfelbffgnbaaGreatDoorCiG
import Derived.Test.YtebgfelbffgnbaaGreatDoorCiH
import Derived.Test.YtebgfelbffgnbaaGreatDoorBE
import Derived.BigQuiet
/-
  How many elements all of a right circuit has, on both sides.
-/
namespace Go.Proofs.YtebgfelbffgnbaaGreatDoor
open Go.RowKit Flow
set_option linter.unusedVariables false
set_option linter.unusedSimpArgs false

/-- A circuit's numbers, the program's and the document's. -/
def cvl (x : Ci) : Value := .agg #[.int .u8 x.k, .int .u8 x.f, .int .i64 x.b, .int .i64 x.l, .int .i64 x.w, .int .i64 x.c]
def rvl (x : Ci) : Value := .agg #[.int .i64 x.k, .int .i64 x.f, .int .i64 x.b, .int .i64 x.l, .int .i64 x.w, .int .i64 x.c]
structure Ci.Good (x : Ci) : Prop where
  f : x.f = 1 ∨ x.f = 2
  fits : x.Fits
  calls : x.callsN ≤ 511
theorem Ci.good {x : Ci} (h : x.code = 0) : x.Good := by
  unfold Ci.code at h
  by_cases hf : x.f = 1 ∨ x.f = 2
  · rw [if_pos hf] at h
    by_cases hk : 1 ≤ x.k ∧ x.k ≤ 5
    · rw [if_pos hk] at h
      by_cases ht : x.fit = true
      · rw [if_pos ht] at h
        by_cases hc : 511 < x.callsN
        · rw [if_pos hc] at h; omega
        · exact ⟨hf, Ci.fits hk.1 hk.2 ht, by omega⟩
      · rw [if_neg ht] at h; omega
    · rw [if_neg hk] at h; omega
  · rw [if_neg hf] at h; omega
theorem Ci.Fits.fit {x : Ci} (h : x.Fits) : x.fit = true := by
  unfold Ci.fit inside
  have hk := h.k1
  have hk5 := h.k5
  have h5 : x.k = 1 ∨ x.k = 2 ∨ x.k = 3 ∨ x.k = 4 ∨ x.k = 5 := by omega
  rcases h5 with e | e | e | e | e
  · have b0 := h.b0 (by omega); have l0 := h.l0 (by omega); have w0 := h.w0 (by omega); have c0 := h.c0 (by omega)
    simp [e, b0, l0, w0, c0]
  · have b0 := h.b (by omega); have l0 := h.l0 (by omega); have w0 := h.w0 (by omega); have c0 := h.c0 (by omega)
    simp [e, b0, l0, w0, c0]
  · have b0 := h.b (by omega); have l0 := h.l (by omega); have w0 := h.w0 (by omega); have c0 := h.c (by omega)
    simp [e, b0, l0, w0, c0]
  · have b0 := h.b0 (by omega); have l0 := h.l (by omega); have w0 := h.w0 (by omega); have c0 := h.c (by omega)
    simp [e, b0, l0, w0, c0]
  · have b0 := h.b0 (by omega); have l0 := h.l (by omega); have w0 := h.w (by omega); have c0 := h.c (by omega)
    simp [e, b0, l0, w0, c0]
theorem Ci.Good.code {x : Ci} (h : x.Good) : x.code = 0 := by
  unfold Ci.code
  rw [if_pos h.f, if_pos ⟨h.fits.k1, h.fits.k5⟩, if_pos h.fits.fit, if_neg (by have := h.calls; omega)]
def Ci.outN (x : Ci) : Nat := if x.k = 1 ∨ x.k = 2 then 1 else x.l.toNat
def Ci.jointN (x : Ci) : Nat := if x.k = 1 then 0 else if x.k = 2 then 1 else if x.k = 3 then x.callsN else x.callsN + 1
def Ci.mostN (x : Ci) : Nat := if x.k = 2 ∨ x.k = 3 then 2 ^ x.b.toNat - 1 else 1
def Ci.arityN (x : Ci) : Nat := if x.k = 1 then 2 else if x.k = 2 then 1 else 2 * x.c.toNat
/-- Contracts of numbers of a circuit. -/
def NumBy (F : FuncId) (v : Value) (n : Nat) : Prop := ∀ w, Calls Tryz.prog F #[v] w fun e w' => e = .returned (.int .i64 (n : Int)) ∧ Below w.heap.size w w'
theorem right_any (x : Ci) (w : World) : Calls Tryz.prog 59 #[cvl x] w fun e w' => e = .returned (.bool (decide (x.code = 0))) ∧ Below w.heap.size w w' := by
  obtain ⟨k, f, b, l, W, c⟩ := x
  unfold cvl
  have hC := fun w => ccheck_any k f b l W c w
  have hd : ∀ z : Int, (z == 0) = decide (z = 0) := fun z => rfl
  generalize (Ci.mk k f b l W c).code = z at *
  by_cases h : z = 0
  · subst h
    replace hC := Lib.hid hC
    clear hd
    go_enter Tryz.func59, Tryz.ntmps59
    go_upto_region 1 with (fail)
    refine name_wp (fun w1 => Below w.heap.size w w1 ∧ w1.heap[w.heap.size]? = some (.cells #[.int .u8 k, .int .u8 f, .int .i64 b, .int .i64 l, .int .i64 W, .int .i64 c] 33 (0, 0))) ⟨(Below.refl _ _).alloc (Nat.le_refl _) _, alloc_at rfl⟩ ?_
    rintro w1 ⟨hb, k0⟩
    obtain ⟨c0, c1, c2, c3, c4, c5⟩ := blk6 k0
    go_wp2_with fail
    refine call_then (hC.out _) ?_
    intro w2 hb2
    replace hb := below_next hb hb.size hb2
    replace k0 := keeps hb2 k0
    clear hb2 c0 c1 c2 c3 c4 c5
    obtain ⟨c0, c1, c2, c3, c4, c5⟩ := blk6 k0
    go_wp2
    go_ret
    exact ⟨rfl, hb⟩
  · have h1 : (z == 0) = false := by simpa using h
    have h2 : decide (z = 0) = false := by simpa using h
    rw [h2]
    replace hC := Lib.hid hC
    clear hd h h2
    go_enter Tryz.func59, Tryz.ntmps59
    go_upto_region 1 with (fail)
    refine name_wp (fun w1 => Below w.heap.size w w1 ∧ w1.heap[w.heap.size]? = some (.cells #[.int .u8 k, .int .u8 f, .int .i64 b, .int .i64 l, .int .i64 W, .int .i64 c] 33 (0, 0))) ⟨(Below.refl _ _).alloc (Nat.le_refl _) _, alloc_at rfl⟩ ?_
    rintro w1 ⟨hb, k0⟩
    obtain ⟨c0, c1, c2, c3, c4, c5⟩ := blk6 k0
    go_wp2_with fail
    refine call_then (hC.out _) ?_
    intro w2 hb2
    replace hb := below_next hb hb.size hb2
    replace k0 := keeps hb2 k0
    clear hb2 c0 c1 c2 c3 c4 c5
    obtain ⟨c0, c1, c2, c3, c4, c5⟩ := blk6 k0
    go_wp2
    go_ret
    exact ⟨by first | rfl | simp [h1], hb⟩
theorem right_good {x : Ci} (h : x.Good) (w : World) : Calls Tryz.prog 59 #[cvl x] w fun e w' => e = .returned (.bool true) ∧ Below w.heap.size w w' := (right_any x w).mono fun e w' ⟨he, hb⟩ => ⟨by rw [he, decide_eq_true h.code], hb⟩
theorem inup_any (x : Ci) (h : x.Good) : NumBy 47 (cvl x) x.inN := by
  intro w
  obtain ⟨k, f, b, l, W, c⟩ := x
  have hR := Lib.hid (right_good h)
  have hI := fun w => cin_any k f b l W c h.fits w
  unfold cvl at *
  generalize (Ci.mk k f b l W c).inN = N at *
  replace hI := Lib.hid hI
  clear h
  go_enter Tryz.func47, Tryz.ntmps47
  go_upto_region 1 with (fail)
  refine name_wp (fun w1 => Below w.heap.size w w1 ∧ w1.heap[w.heap.size]? = some (.cells #[.int .u8 k, .int .u8 f, .int .i64 b, .int .i64 l, .int .i64 W, .int .i64 c] 33 (0, 0))) ⟨(Below.refl _ _).alloc (Nat.le_refl _) _, alloc_at rfl⟩ ?_
  rintro w1 ⟨hb, k0⟩
  obtain ⟨c0, c1, c2, c3, c4, c5⟩ := blk6 k0
  go_wp2_with fail
  refine call_then (hR.out _) ?_
  intro w2 hb2
  replace hb := below_next hb hb.size hb2
  replace k0 := keeps hb2 k0
  clear hb2 c0 c1 c2 c3 c4 c5
  obtain ⟨c0, c1, c2, c3, c4, c5⟩ := blk6 k0
  go_wp2_with fail
  refine call_then (hI.out _) ?_
  intro w2 hb2
  replace hb := below_next hb hb.size hb2
  replace k0 := keeps hb2 k0
  clear hb2 c0 c1 c2 c3 c4 c5
  obtain ⟨c0, c1, c2, c3, c4, c5⟩ := blk6 k0
  go_wp2
  go_ret
  exact ⟨rfl, hb⟩
theorem joint_any (x : Ci) (h : x.Good) : NumBy 41 (cvl x) x.jointN := by
  intro w
  obtain ⟨k, f, b, l, W, c⟩ := x
  have hR := Lib.hid (right_good h)
  have hI := fun w => ccalls_any k f b l W c h.fits w
  have hle := h.calls
  have hk : k = 1 ∨ k = 2 ∨ k = 3 ∨ k = 4 ∨ k = 5 := by have := h.fits.k1; have := h.fits.k5; simp only at *; omega
  unfold cvl at *
  rcases hk with rfl | rfl | rfl | rfl | rfl
  · rw [show (Ci.mk 1 f b l W c).jointN = 0 by simp [Ci.jointN]]
    clear h
    generalize (Ci.mk 1 f b l W c).callsN = N at *
    have zN : IntKind.i64.wrap ((N : Int) + 1) = ((N + 1 : Nat) : Int) := wrap_i (by omega) (by omega)
    replace hI := Lib.hid hI
    go_enter Tryz.func41, Tryz.ntmps41
    go_upto_region 1 with (fail)
    refine name_wp (fun w1 => Below w.heap.size w w1 ∧ w1.heap[w.heap.size]? = some (.cells #[.int .u8 1, .int .u8 f, .int .i64 b, .int .i64 l, .int .i64 W, .int .i64 c] 33 (0, 0))) ⟨(Below.refl _ _).alloc (Nat.le_refl _) _, alloc_at rfl⟩ ?_
    rintro w1 ⟨hb, k0⟩
    obtain ⟨c0, c1, c2, c3, c4, c5⟩ := blk6 k0
    go_wp2_with fail
    refine call_then (hR.out _) ?_
    intro w2 hb2
    replace hb := below_next hb hb.size hb2
    replace k0 := keeps hb2 k0
    clear hb2 c0 c1 c2 c3 c4 c5
    obtain ⟨c0, c1, c2, c3, c4, c5⟩ := blk6 k0
    go_wp2
    go_ret
    exact ⟨rfl, hb⟩
  · rw [show (Ci.mk 2 f b l W c).jointN = 1 by simp [Ci.jointN]]
    clear h
    generalize (Ci.mk 2 f b l W c).callsN = N at *
    have zN : IntKind.i64.wrap ((N : Int) + 1) = ((N + 1 : Nat) : Int) := wrap_i (by omega) (by omega)
    replace hI := Lib.hid hI
    go_enter Tryz.func41, Tryz.ntmps41
    go_upto_region 1 with (fail)
    refine name_wp (fun w1 => Below w.heap.size w w1 ∧ w1.heap[w.heap.size]? = some (.cells #[.int .u8 2, .int .u8 f, .int .i64 b, .int .i64 l, .int .i64 W, .int .i64 c] 33 (0, 0))) ⟨(Below.refl _ _).alloc (Nat.le_refl _) _, alloc_at rfl⟩ ?_
    rintro w1 ⟨hb, k0⟩
    obtain ⟨c0, c1, c2, c3, c4, c5⟩ := blk6 k0
    go_wp2_with fail
    refine call_then (hR.out _) ?_
    intro w2 hb2
    replace hb := below_next hb hb.size hb2
    replace k0 := keeps hb2 k0
    clear hb2 c0 c1 c2 c3 c4 c5
    obtain ⟨c0, c1, c2, c3, c4, c5⟩ := blk6 k0
    go_wp2
    go_ret
    exact ⟨rfl, hb⟩
  · rw [show (Ci.mk 3 f b l W c).jointN = (Ci.mk 3 f b l W c).callsN by simp [Ci.jointN]]
    clear h
    generalize (Ci.mk 3 f b l W c).callsN = N at *
    have zN : IntKind.i64.wrap ((N : Int) + 1) = ((N + 1 : Nat) : Int) := wrap_i (by omega) (by omega)
    replace hI := Lib.hid hI
    go_enter Tryz.func41, Tryz.ntmps41
    go_upto_region 1 with (fail)
    refine name_wp (fun w1 => Below w.heap.size w w1 ∧ w1.heap[w.heap.size]? = some (.cells #[.int .u8 3, .int .u8 f, .int .i64 b, .int .i64 l, .int .i64 W, .int .i64 c] 33 (0, 0))) ⟨(Below.refl _ _).alloc (Nat.le_refl _) _, alloc_at rfl⟩ ?_
    rintro w1 ⟨hb, k0⟩
    obtain ⟨c0, c1, c2, c3, c4, c5⟩ := blk6 k0
    go_wp2_with fail
    refine call_then (hR.out _) ?_
    intro w2 hb2
    replace hb := below_next hb hb.size hb2
    replace k0 := keeps hb2 k0
    clear hb2 c0 c1 c2 c3 c4 c5
    obtain ⟨c0, c1, c2, c3, c4, c5⟩ := blk6 k0
    go_wp2_with fail
    refine call_then (hI.out _) ?_
    intro w2 hb2
    replace hb := below_next hb hb.size hb2
    replace k0 := keeps hb2 k0
    clear hb2 c0 c1 c2 c3 c4 c5
    obtain ⟨c0, c1, c2, c3, c4, c5⟩ := blk6 k0
    go_wp2
    go_ret
    exact ⟨rfl, hb⟩
  · rw [show (Ci.mk 4 f b l W c).jointN = (Ci.mk 4 f b l W c).callsN + 1 by simp [Ci.jointN]]
    clear h
    generalize (Ci.mk 4 f b l W c).callsN = N at *
    have zN : IntKind.i64.wrap ((N : Int) + 1) = ((N + 1 : Nat) : Int) := wrap_i (by omega) (by omega)
    replace hI := Lib.hid hI
    go_enter Tryz.func41, Tryz.ntmps41
    go_upto_region 1 with (fail)
    refine name_wp (fun w1 => Below w.heap.size w w1 ∧ w1.heap[w.heap.size]? = some (.cells #[.int .u8 4, .int .u8 f, .int .i64 b, .int .i64 l, .int .i64 W, .int .i64 c] 33 (0, 0))) ⟨(Below.refl _ _).alloc (Nat.le_refl _) _, alloc_at rfl⟩ ?_
    rintro w1 ⟨hb, k0⟩
    obtain ⟨c0, c1, c2, c3, c4, c5⟩ := blk6 k0
    go_wp2_with fail
    refine call_then (hR.out _) ?_
    intro w2 hb2
    replace hb := below_next hb hb.size hb2
    replace k0 := keeps hb2 k0
    clear hb2 c0 c1 c2 c3 c4 c5
    obtain ⟨c0, c1, c2, c3, c4, c5⟩ := blk6 k0
    go_wp2_with fail
    refine call_then (hI.out _) ?_
    intro w2 hb2
    replace hb := below_next hb hb.size hb2
    replace k0 := keeps hb2 k0
    clear hb2 c0 c1 c2 c3 c4 c5
    obtain ⟨c0, c1, c2, c3, c4, c5⟩ := blk6 k0
    go_wp2
    go_ret
    exact ⟨rfl, hb⟩
  · rw [show (Ci.mk 5 f b l W c).jointN = (Ci.mk 5 f b l W c).callsN + 1 by simp [Ci.jointN]]
    clear h
    generalize (Ci.mk 5 f b l W c).callsN = N at *
    have zN : IntKind.i64.wrap ((N : Int) + 1) = ((N + 1 : Nat) : Int) := wrap_i (by omega) (by omega)
    replace hI := Lib.hid hI
    go_enter Tryz.func41, Tryz.ntmps41
    go_upto_region 1 with (fail)
    refine name_wp (fun w1 => Below w.heap.size w w1 ∧ w1.heap[w.heap.size]? = some (.cells #[.int .u8 5, .int .u8 f, .int .i64 b, .int .i64 l, .int .i64 W, .int .i64 c] 33 (0, 0))) ⟨(Below.refl _ _).alloc (Nat.le_refl _) _, alloc_at rfl⟩ ?_
    rintro w1 ⟨hb, k0⟩
    obtain ⟨c0, c1, c2, c3, c4, c5⟩ := blk6 k0
    go_wp2_with fail
    refine call_then (hR.out _) ?_
    intro w2 hb2
    replace hb := below_next hb hb.size hb2
    replace k0 := keeps hb2 k0
    clear hb2 c0 c1 c2 c3 c4 c5
    obtain ⟨c0, c1, c2, c3, c4, c5⟩ := blk6 k0
    go_wp2_with fail
    refine call_then (hI.out _) ?_
    intro w2 hb2
    replace hb := below_next hb hb.size hb2
    replace k0 := keeps hb2 k0
    clear hb2 c0 c1 c2 c3 c4 c5
    obtain ⟨c0, c1, c2, c3, c4, c5⟩ := blk6 k0
    go_wp2
    go_ret
    exact ⟨rfl, hb⟩
end Go.Proofs.YtebgfelbffgnbaaGreatDoor

/-
  What one adds at most; numbers added; bits.
-/
namespace Go.Proofs.YtebgfelbffgnbaaGreatDoor
open Go.RowKit Flow F
set_option linter.unusedVariables false
set_option linter.unusedSimpArgs false

def Ci.measuredN (x : Ci) : Nat := if x.k = 4 then 1 else x.outN
/-- A sum of words. -/
def wsum : List Int → Int
  | l => l.foldl (fun s x => (s + x) % 18446744073709551616) 0
/-- A slice reads as words. -/
def WordsAt (w : World) (A : Option Addr) (zs : List Int) : Prop := ∀ k, k < zs.length → ∃ b o, A = some ⟨b, o, none⟩ ∧ w.cell? ⟨b, o + k, none⟩ = some (.int .u64 (zs.getD k 0))
def WordsOK (zs : List Int) : Prop := ∀ x, x ∈ zs → 0 ≤ x ∧ x < 18446744073709551616
theorem WordsOK.at_ {xs : List Int} (h : WordsOK xs) {k : Nat} (hk : k < xs.length) : 0 ≤ xs.getD k 0 ∧ xs.getD k 0 < 18446744073709551616 := by
  rw [List.getD_eq_getElem?_getD, List.getElem?_eq_getElem hk]
  exact h _ (List.getElem_mem hk)
theorem WordsAt.up {w w' : World} {A : Option Addr} {xs : List Int} (h : WordsAt w A xs) (hb : Below w.heap.size w w') : WordsAt w' A xs := fun k hk => by
  obtain ⟨b, o, e, hc⟩ := h k hk
  exact ⟨b, o, e, (hb.cell (World.block_lt_of_cell? _ _ hc)).trans hc⟩
end Go.Proofs.YtebgfelbffgnbaaGreatDoor

/-
  Bits as elements.
-/
namespace Go.Proofs.YtebgfelbffgnbaaGreatDoor
open Go.RowKit Flow F
set_option linter.unusedVariables false
set_option linter.unusedSimpArgs false

/-- What is asked of a field. -/
structure Fb (f : Int) : Prop where
  one2 : f = 1 ∨ f = 2
  hval : ∀ w, Calls Tryz.prog 75 #[.int .u8 f] w fun e w' => e = .returned (.bool true) ∧ Below w.heap.size w w'
  hone : ∀ w, Calls Tryz.prog 53 #[.int .u8 f] w fun e w' => e = .returned (.agg #[.int .u64 1, .int .u64 0]) ∧ Below w.heap.size w w'
  hmul : OpBy 87 f (mul f)
  hadd : OpBy 82 f (add f)
  hsub : OpBy 90 f (sub f)
  hof : ∀ n : Int, 0 ≤ n → n < 18446744069414584321 → ∀ w, Calls Tryz.prog 54 #[.int .u8 f, .int .u64 n] w fun e w' => e = .returned (.agg #[.int .u64 (lo n), .int .u64 (hi n)]) ∧ Below w.heap.size w w'
theorem fb_one : Fb 1 := by
  refine ⟨.inl rfl, fvalid_one, fone_any 1 (.inl rfl), opBy_mul1, opBy_add1, opBy_sub1, fun n n0 n1 w => ?_⟩
  have h := fof_one n n0 (by omega) w
  rw [redu_of_lt n0 (by rw [M1]; exact n1)] at h
  exact h
theorem fb_two : Fb 2 := by
  refine ⟨.inr rfl, fvalid_two, fone_any 2 (.inr rfl), opBy_mul2, opBy_add2, opBy_sub2, fun n n0 n1 w => ?_⟩
  have h := fof_two n n0 (by omega) w
  rw [redu_of_lt n0 (by have : M 2 = 340282366920938462946865773367900766209 := rfl; omega)] at h
  exact h
theorem fb_of {f : Int} (h : f = 1 ∨ f = 2) : Fb f := by
  rcases h with rfl | rfl
  · exact fb_one
  · exact fb_two
/-- A number's bits, the lowest first. -/
def bitN (n i : Nat) : Nat := n / 2 ^ i % 2
def bitsL (n m : Nat) : List Int := (List.range m).map fun i => (bitN n i : Int)
theorem below_store2' {B : Nat} {a w : World} {b i k : Nat} {u v : Value} (h : Below B a w) (hb : B ≤ b) : Below B a ((w.setCell ⟨b, i, none⟩ u).setCell ⟨b, k, none⟩ v) := (h.setCell hb _).setCell hb _
theorem store2_farx {w : World} {b c i j : Nat} {o : Obj} {u v : Value} (h : w.heap[b]? = some o) (hbc : b ≠ c) : ((w.setCell ⟨c, i, none⟩ u).setCell ⟨c, j, none⟩ v).heap[b]? = some o := store_far (store_far h hbc) hbc
def BitsOut (n m : Nat) (w : World) (e : Ending) (w' : World) : Prop := ∃ g, e = .returned (.slice (some ⟨g, 0, none⟩) m m) ∧ Below w.heap.size w w' ∧ w.heap.size ≤ g ∧ Row w' g (bitsL n m)
end Go.Proofs.YtebgfelbffgnbaaGreatDoor

/-
  Mathematics of sums of bits, and of the number that bits say.
-/
namespace Go.Proofs.YtebgfelbffgnbaaGreatDoor
open Go.RowKit F
set_option linter.unusedVariables false

/-- All elements are of the field. -/
def InF (f : Int) (xs : List Int) : Prop := ∀ x, x ∈ xs → 0 ≤ x ∧ x < M f
theorem InF.ok {f : Int} {xs : List Int} (h : InF f xs) : ElemsOK xs := fun x hx => by have := h x hx; have := M_lt f; omega
theorem InF.at_ {f : Int} {xs : List Int} (h : InF f xs) {k : Nat} (hk : k < xs.length) : 0 ≤ xs.getD k 0 ∧ xs.getD k 0 < M f := by
  rw [List.getD_eq_getElem?_getD, List.getElem?_eq_getElem hk]
  exact h _ (List.getElem_mem hk)
theorem InF.take {f : Int} {xs : List Int} (h : InF f xs) (k : Nat) : InF f (xs.take k) := fun x hx => h x (List.mem_of_mem_take hx)
theorem InF.drop {f : Int} {xs : List Int} (h : InF f xs) (k : Nat) : InF f (xs.drop k) := fun x hx => h x (List.mem_of_mem_drop hx)
theorem M_big (f : Int) : 18446744069414584321 ≤ M f := by unfold M; split <;> omega
theorem redu_in {f x : Int} (h0 : 0 ≤ x) (h1 : x < M f) : redu f x = x := redu_of_lt h0 h1
/-- The sum of elements; the number that bits say. -/
def sumF (f : Int) (xs : List Int) : Int := xs.foldl (add f) 0
def numF (f : Int) (xs : List Int) : Int := (List.zipWith (mul f) xs (powers (mul f) 2 xs.length)).foldl (add f) 0
def bitsB (xs : List Int) : Bool := xs.all fun x => x == 0 || x == 1
def ones (xs : List Int) : Nat := (xs.map Int.toNat).sum
def said : List Int → Nat
  | [] => 0
  | x :: xs => x.toNat + 2 * said xs
theorem sumF_snoc (f : Int) (xs : List Int) (x : Int) : sumF f (xs ++ [x]) = add f (sumF f xs) x := by
  unfold sumF
  rw [List.foldl_append]
  rfl
theorem powers_snoc (op : Int → Int → Int) (a : Int) (n : Nat) : powers op a (n + 1) = powers op a n ++ [power op a n] := by simp [powers, List.range_succ]
theorem numF_snoc (f : Int) (xs : List Int) (x : Int) : numF f (xs ++ [x]) = add f (numF f xs) (mul f x (power (mul f) 2 xs.length)) := by
  unfold numF
  rw [List.length_append, List.length_cons, List.length_nil, Nat.zero_add, powers_snoc, List.zipWith_append (by rw [powers_length]), List.foldl_append]
  rfl
end Go.Proofs.YtebgfelbffgnbaaGreatDoor

/-
  By how much the weight's bits are told too great; may numbers be measured?
-/
namespace Go.Proofs.YtebgfelbffgnbaaGreatDoor
open Go.RowKit Flow F
set_option linter.unusedVariables false
set_option linter.unusedSimpArgs false

def offN (W : Nat) : Nat := 2 ^ Lib.bitLen W - 1 - W
theorem bl_small : ∀ W : Fin 65, W.val < 2 ^ Lib.bitLen W.val ∧ Lib.bitLen W.val ≤ 7 ∧ (1 ≤ W.val → 1 ≤ Lib.bitLen W.val) := by decide +kernel
theorem bl_lt {W : Nat} (h : W ≤ 64) : W < 2 ^ Lib.bitLen W := (bl_small ⟨W, by omega⟩).1
theorem bl_le {W : Nat} (h : W ≤ 64) : Lib.bitLen W ≤ 7 := (bl_small ⟨W, by omega⟩).2.1
theorem pow_le7 {b : Nat} (h : b ≤ 7) : 2 ^ b ≤ 128 := Nat.le_trans (Nat.pow_le_pow_right (by omega) h) (by decide)
theorem offN_le {W : Nat} (h : W ≤ 64) : offN W ≤ 127 := by unfold offN; have := pow_le7 (bl_le h); omega
theorem offset_any (k f b l c : Int) (W : Nat) (h1 : W ≤ 64) (w : World) : Calls Tryz.prog 56 #[.agg #[.int .u8 k, .int .u8 f, .int .i64 b, .int .i64 l, .int .i64 (W : Int), .int .i64 c]] w fun e w' => e = .returned (.int .u64 (offN W : Int)) ∧ Below w.heap.size w w' := by
  have hwb := fun w => wb_any k f b l (W : Int) c (by omega) (by omega) w
  simp only [Int.toNat_natCast] at hwb
  have hlt := bl_lt h1
  have hle := bl_le h1
  have hp := pow_le7 hle
  unfold offN
  generalize Lib.bitLen W = B at *
  have hsh : ((1 : Int) * 2 ^ B) = ((2 ^ B : Nat) : Int) := by simp
  obtain ⟨X, hX⟩ : ∃ X, X = 2 ^ B := ⟨_, rfl⟩
  rw [← hX] at hp hlt hsh ⊢
  have hwr : IntKind.u64.wrap ((1 : Int) * 2 ^ B) = (X : Int) := by rw [hsh, IntKind.wrap_u64]; omega
  have hwr2 : IntKind.u64.wrap ((2 : Int) ^ B) = (X : Int) := by rw [← hwr]; simp
  have hwr3 : ((2 : Int) ^ B) = (X : Int) := by rw [← hsh]; simp
  obtain ⟨Y, hY⟩ : ∃ Y, X - 1 = Y := ⟨_, rfl⟩
  obtain ⟨Z, hZ⟩ : ∃ Z, X - 1 - W = Z := ⟨_, rfl⟩
  have hw0 : IntKind.u64.wrap (W : Int) = (W : Int) := by rw [IntKind.wrap_u64]; omega
  have hB0 : IntKind.u64.wrap (B : Int) = (B : Int) := by rw [IntKind.wrap_u64]; omega
  have hy : IntKind.u64.wrap ((X : Int) - 1) = (Y : Int) := by rw [IntKind.wrap_u64]; omega
  have hy2 : (X : Int) - 1 = (Y : Int) := by omega
  have hz : IntKind.u64.wrap ((Y : Int) - (W : Int)) = (Z : Int) := by rw [IntKind.wrap_u64]; omega
  have hz2 : (Y : Int) - (W : Int) = (Z : Int) := by omega
  rw [hZ]
  have hYW : W ≤ Y := by omega
  replace hX := Lib.hid hX
  replace hY := Lib.hid hY
  replace hZ := Lib.hid hZ
  replace hwb := Lib.hid hwb
  clear hsh
  go_enter Tryz.func56, Tryz.ntmps56
  go_upto_region 1 with (fail)
  refine name_wp (fun w1 => Below w.heap.size w w1 ∧ w1.heap[w.heap.size]? = some (.cells #[.int .u8 k, .int .u8 f, .int .i64 b, .int .i64 l, .int .i64 (W : Int), .int .i64 c] 33 (0, 0))) ⟨(Below.refl _ _).alloc (Nat.le_refl _) _, alloc_at rfl⟩ ?_
  rintro w1 ⟨hb, k0⟩
  obtain ⟨c0, c1, c2, c3, c4, c5⟩ := blk6 k0
  refine wp_region_flow0 (by kernel_rfl) (by kernel_rfl) ?_
  intro ι _ φ hφ
  have q := fun i => blk6 (keeps (hφ.old i) k0)
  have q0 := fun i => (q i).1
  have q1 := fun i => (q i).2.1
  have q2 := fun i => (q i).2.2.1
  have q3 := fun i => (q i).2.2.2.1
  have q4 := fun i => (q i).2.2.2.2.1
  have q5 := fun i => (q i).2.2.2.2.2
  clear q
  repeat (go_big_quiet_step ((first
    | (go_at_call 57; exact flow_call hφ (hwb.out _)))))
  refine wpQuiet_nil ?_
  intro w2 hw2
  clear q0 q1 q2 q3 q4 q5 hφ c0 c1 c2 c3 c4 c5
  go_wp2
  go_ret
  exact ⟨rfl, below_next hb hb.size hw2⟩
/-- May numbers be measured? -/
def fitsB (x : Ci) (zs : List Int) : Bool := if x.k = 4 then decide (zs.getD 0 0 < x.l) else zs.all (fun z => decide (z ≤ (x.mostN : Int))) && (decide (x.k ≠ 5) || decide (wsum zs ≤ x.w))
def allLe (m : Int) (zs : List Int) : Bool := zs.all (fun z => decide (z ≤ m))
end Go.Proofs.YtebgfelbffgnbaaGreatDoor

/-
  What is measured as a vector.
-/
namespace Go.Proofs.YtebgfelbffgnbaaGreatDoor
open Go.RowKit Flow F
set_option linter.unusedVariables false
set_option linter.unusedSimpArgs false

/-- What is measured as a vector. -/
def encL (x : Ci) (zs : List Int) : List Int :=
  if x.k = 2 ∨ x.k = 3 then zs.flatMap (fun z => bitsL z.toNat x.b.toNat)
  else if x.k = 4 then (List.replicate x.l.toNat 0).set (zs.getD 0 0).toNat 1
  else if x.k = 5 then zs ++ bitsL ((wsum zs).toNat + offN x.w.toNat) (Lib.bitLen x.w.toNat)
  else zs
/-- Its error. -/
def encE (x : Ci) (N : Nat) (zs : List Int) : Int := if x.code = 0 then (if N = x.measuredN then (if fitsB x zs = true then 0 else 6) else 9) else x.code
def EncOut (x : Ci) (L : List Int) (w : World) (e : Ending) (w' : World) : Prop :=
  ∃ A c, e = .returned (.tuple #[.slice A L.length c, .int .i64 0]) ∧ Below w.heap.size w w' ∧ ElemsAt w' A L ∧ L.length ≤ c ∧ ∀ a, A = some a → w.heap.size ≤ a.block
theorem row_news {w : World} {g : Nat} {xs : List Int} (h : Row w g xs) : ∀ j u, (ecells xs)[j]? = some u → w.cell? (Addr.add ⟨g, 0, none⟩ j) = some u := fun j u hj => by
  have h' : w.heap[g]? = some (.cells (ecells xs).toArray 28 (0, 0)) := h
  rw [add_two rfl, Nat.zero_add]
  simp only [World.cell?, h']
  simpa using hj
end Go.Proofs.YtebgfelbffgnbaaGreatDoor
