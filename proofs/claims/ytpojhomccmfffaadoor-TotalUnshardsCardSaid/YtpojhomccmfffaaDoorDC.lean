import Derived.Test.YtpojhomccmfffaaDoorDB
import Derived.Test.YtpojhomccmfffaaDoorBA
import Derived.Test.YtpojhomccmfffaaDoorBX
import Derived.Test.YtpojhomccmfffaaDoorBE
/-
  What is measured as a vector: of a Count, a Multihot, a Histogram.
-/
namespace Go.Proofs.YtpojhomccmfffaaDoor
open Go.RowKit Flow F
set_option linter.unusedVariables false
set_option linter.unusedSimpArgs false

theorem fits_le {x : Ci} {zs : List Int} (h4 : x.k ≠ 4) (hk : ¬ (x.k = 2 ∨ x.k = 3)) (hf : fitsB x zs = true) : ∀ z, z ∈ zs → z ≤ 1 := by
  unfold fitsB at hf
  rw [if_neg h4] at hf
  have e : x.mostN = 1 := by unfold Ci.mostN; rw [if_neg hk]
  rw [e] at hf
  simp only [Bool.and_eq_true, List.all_eq_true, decide_eq_true_eq] at hf
  exact hf.1
set_option maxHeartbeats 2000000 in
theorem enc_count (x : Ci) (zs : List Int) (A : Option Addr) (N cp : Nat) (h : x.Good) (hN : N = x.measuredN) (hl : zs.length = N) (hm : N ≤ maxLen) (hz : WordsOK zs) (h1 : 1 ≤ N) (hf : fitsB x zs = true) (hk1 : x.k = 1) (w : World) (hA : WordsAt w A zs) : Calls Tryd.prog 21 #[cvl x, .slice A N cp] w (EncOut x (encL x zs) w) := by
  have e1 : encL x zs = zs := by unfold encL; rw [if_neg (by omega), if_neg (by omega), if_neg (by omega)]
  rw [e1]
  have hle1 := Lib.hid (fits_le (by omega) (by omega) hf)
  have hN64 : N ≤ 64 := by
    rw [hN]; unfold Ci.measuredN Ci.outN
    rw [if_neg (by omega), if_pos (by omega)]
    omega
  have hM := measured_any x h
  have hF := fun w hA => fits_any x h zs A N cp hl h1 hm hz w hA
  rw [hf] at hF
  have hz' := h.code
  have hle := h.fits.in_le
  have fb := fb_of h.f
  obtain ⟨k, f, b, l, W, c⟩ := x
  have hC := fun w => ccheck_any k f b l W c w
  have hI := fun w => cin_any k f b l W c h.fits w
  have hof := Lib.hid fb.hof
  unfold cvl NumBy at *
  rw [← hN] at hM
  rw [hz'] at hC
  simp only at hk1 hof
  generalize (Ci.mk k f b l W c).inN = I at *
  replace hC := Lib.hid hC
  replace hM := Lib.hid hM
  replace hF := Lib.hid hF
  replace hI := Lib.hid hI
  replace hA := Lib.hid hA
  replace hz := Lib.hid hz
  replace hl := Lib.hid hl
  obtain ⟨i0, hinf, hz0, hz1, hz2⟩ := info_parts info_elemv
  replace hinf := Lib.hid hinf
  clear h hN hz' hf h1 e1
  subst hk1
  go_enter Tryd.func21, Tryd.ntmps21
  go_upto_region 1 with (fail)
  refine name_wp (fun w1 => Below w.heap.size w w1 ∧ w1.heap[w.heap.size]? = some (.cells #[.int .u8 1, .int .u8 f, .int .i64 b, .int .i64 l, .int .i64 W, .int .i64 c] 31 (0, 0))) ⟨(Below.refl _ _).alloc (Nat.le_refl _) _, alloc_at rfl⟩ ?_
  rintro w1 ⟨hb, k0⟩
  obtain ⟨c0, c1, c2, c3, c4, c5⟩ := blk6 k0
  go_wp2_with fail
  refine call_then (hC.out _) ?_
  intro w2 hb2
  replace hb := below_next hb hb.size hb2
  replace k0 := keeps hb2 k0
  clear hb2 c0 c1 c2 c3 c4 c5
  obtain ⟨c0, c1, c2, c3, c4, c5⟩ := blk6 k0
  go_wp2_with fail
  refine call_then (hM.out _) ?_
  intro w2 hb2
  replace hb := below_next hb hb.size hb2
  replace k0 := keeps hb2 k0
  clear hb2 c0 c1 c2 c3 c4 c5
  obtain ⟨c0, c1, c2, c3, c4, c5⟩ := blk6 k0
  go_wp2_with fail
  refine call_then (hF.out _ (hA.out.up hb)) ?_
  intro w2 hb2
  replace hb := below_next hb hb.size hb2
  replace k0 := keeps hb2 k0
  clear hb2 c0 c1 c2 c3 c4 c5
  obtain ⟨c0, c1, c2, c3, c4, c5⟩ := blk6 k0
  go_wp2_with fail
  refine call_then (hI.out _) ?_
  intro w2 hb2
  replace hb := below_next hb hb.size hb2
  replace k0 := keeps hb2 k0
  clear hb2 c0 c1 c2 c3 c4 c5
  obtain ⟨c0, c1, c2, c3, c4, c5⟩ := blk6 k0
  clear hC hM hF hI
  obtain ⟨cur, hmk, hcs⟩ := make_cap I (by omega) w2
  go_upto_region 9 with (fail)
  have hBw := hb.size
  have hpB := lt_of_get k0
  have hm3 := World.ownsRow_made (base := w2.heap.size) w2 cur I (Nat.le_refl _) (by unfold maxLen; omega) hcs (e := 65) (size := 2)
  refine name_wp (fun w3 => Below w.heap.size w w3 ∧ w3.heap[w.heap.size]? = some (.cells #[.int .u8 1, .int .u8 f, .int .i64 b, .int .i64 l, .int .i64 W, .int .i64 c] 31 (0, 0)) ∧ w2.heap.size ≤ w3.heap.size ∧ w3.ownsRow w2.heap.size 65 2 (.slice (some ⟨w2.heap.size, 0, none⟩) 0 I) 0 (ecells [])) ⟨hb.alloc hb.size _, alloc_keeps k0, by simp, hm3⟩ ?_
  clear hb k0 hm3 hmk c0 c1 c2 c3 c4 c5
  generalize w2.heap.size = B0 at *
  rintro w3 ⟨hb, k0, hBs, hown⟩
  clear w2
  replace hBw := Lib.hid hBw
  replace hpB := Lib.hid hpB
  obtain ⟨c0, c1, c2, c3, c4, c5⟩ := blk6 k0
  go_wp2
  clear c0 c1 c2 c3 c4 c5
  go_loopw [33, 7] (fun i v wr => ∃ j : Nat, j ≤ N ∧ i = .int .i64 (j : Int) ∧ Below w.heap.size w wr ∧ wr.heap[w.heap.size]? = some (.cells #[.int .u8 1, .int .u8 f, .int .i64 b, .int .i64 l, .int .i64 W, .int .i64 c] 31 (0, 0)) ∧ B0 ≤ wr.heap.size ∧ wr.ownsRow B0 65 2 v j (ecells (zs.take j))) (fun i _ _ => N - (intOf i).toNat)
  case atStart => exact ⟨0, Nat.zero_le _, rfl, hb, k0, hBs, hown⟩
  case round =>
    clear hb k0 hown hBs
    obtain ⟨j, hj, rfl, hb, k0, hBs, hown⟩ := hrel
    obtain ⟨c0, c1, c2, c3, c4, c5⟩ := blk6 k0
    by_cases hlt : j < N
    · have j1 : (j : Int) < (N : Int) := by omega
      have j0 : (0 : Int) ≤ (j : Int) := by omega
      obtain ⟨p, o, rfl, hc⟩ := hA.out j (by rw [hl.out]; exact hlt)
      have hc2 := (hb.cell (World.block_lt_of_cell? _ _ hc)).trans hc
      have hx := hz.out.at_ (k := j) (by rw [hl.out]; exact hlt)
      have hx1 := hle1.out (zs.getD j 0) (by rw [List.getD_eq_getElem?_getD, List.getElem?_eq_getElem (by rw [hl.out]; exact hlt)]; exact List.getElem_mem _)
      have hsn := Lib.hid (show ecells (zs.take (j + 1)) = ecells (zs.take j) ++ ecells [zs.getD j 0] by rw [take_snocD (by rw [hl.out]; exact hlt), ecells_append])
      generalize zs.getD j 0 = z at *
      have hoz := Lib.hid (hof.out z hx.1 (by omega))
      clear hc
      go_wp2_with fail
      refine call_then (hoz.out _) ?_
      intro w4 hb4
      have hown4 := ownsn_up hown hb4
      have hb5 := below_next hb hb.size hb4
      have k5 := keeps hb4 k0
      have hBs5 := Nat.le_trans hBs hb4.size
      clear hown hb4 hb k0 hBs hoz c0 c1 c2 c3 c4 c5
      have hown6 := Lib.hid (hown4.alloc (.cells #[.int .u64 (lo z), .int .u64 (hi z)] 65 (0, 0)))
      have hb6 := Lib.hid (hb5.alloc hb5.size (.cells #[.int .u64 (lo z), .int .u64 (hi z)] 65 (0, 0)))
      have k6 := Lib.hid (alloc_keeps (o := .cells #[.int .u64 (lo z), .int .u64 (hi z)] 65 (0, 0)) k5)
      have hBs6 : B0 ≤ (w4.alloc (.cells #[.int .u64 (lo z), .int .u64 (hi z)] 65 (0, 0))).heap.size := Nat.le_trans hBs5 (by simp)
      have t1 : j + 1 ≤ maxLen := by unfold maxLen; omega
      have t2 : (j + 1) * 16 ≤ 140737488355328 := by omega
      clear hb5 k5 hBs5 hown4
      go_wp2_with (at_builtin; refine wpList_append_own _ rfl _ _ 35 rfl B0 65 i0 (.agg #[.int .u64 0, .int .u64 0]) 2 16 Tryd.underlying35 hinf.out hz0 hz1 hz2 rfl (by decide) _ _ _ rfl hown6.out ⟨_, 0, none⟩ 1 1 (ecells [z]) rfl rfl (news_elem2 (by simp)) (ecells_one _) t1 t2 hBs6 ?_; intro v1 w7 hown7 hg7 _; have hb7 := grownn_below hb6.out hBw.out hown6.out hg7; have k7 := (hg7.block w.heap.size (lt_of_get k6.out) (fun e => by have := (hown6.out.lt _ e.symm).1; have := hpB.out; omega)).trans k6.out; have hBs7 := Nat.le_trans hBs6 hg7.size; clear hg7)
      refine ⟨⟨j + 1, by omega, by go_num, hb7, k7, hBs7, ?_⟩, by simp [intOf]; omega⟩
      rw [hsn.out]
      exact hown7
    · obtain rfl : N = j := by omega
      rw [List.take_of_length_le (by rw [hl.out]; exact Nat.le_refl _)] at hown
      have j1 : ¬ (N : Int) < (N : Int) := by omega
      obtain ⟨a9, c9, rfl, hel, hlc, hfr⟩ := owns_out hown
      have hl2 : zs.length = N := hl.out
      obtain ⟨L, hL⟩ : ∃ L, zs.length = L := ⟨_, rfl⟩
      rw [hL] at hlc ⊢
      replace hL := Lib.hid hL
      replace hel := Lib.hid hel
      replace hlc := Lib.hid hlc
      replace hfr := Lib.hid hfr
      clear hown hl2
      go_wp2
      go_ret2
      rw [← hL.out] at hlc ⊢
      exact ⟨_, _, rfl, hb, hel.out, hlc.out, fun a e => Nat.le_trans hBw.out (hfr.out a e)⟩
theorem fits_sum {x : Ci} {zs : List Int} (h5 : x.k = 5) (hf : fitsB x zs = true) : wsum zs ≤ x.w := by
  unfold fitsB at hf
  rw [if_neg (by omega)] at hf
  simp only [Bool.and_eq_true, Bool.or_eq_true, decide_eq_true_eq] at hf
  rcases hf.2 with h | h
  · omega
  · exact h
set_option maxRecDepth 20000 in
set_option maxHeartbeats 4000000 in
theorem enc_multi (x : Ci) (zs : List Int) (A : Option Addr) (N cp : Nat) (h : x.Good) (hN : N = x.measuredN) (hl : zs.length = N) (hm : N ≤ maxLen) (hz : WordsOK zs) (h1 : 1 ≤ N) (hf : fitsB x zs = true) (hk1 : x.k = 5) (w : World) (hA : WordsAt w A zs) : Calls Tryd.prog 21 #[cvl x, .slice A N cp] w (EncOut x (encL x zs) w) := by
  have e1 : encL x zs = zs ++ bitsL ((wsum zs).toNat + offN x.w.toNat) (Lib.bitLen x.w.toNat) := by unfold encL; rw [if_neg (by omega), if_neg (by omega), if_pos hk1]
  rw [e1]
  have hle1 := Lib.hid (fits_le (by omega) (by omega) hf)
  have hW := h.fits.w hk1
  have hL := h.fits.l (by omega)
  have hN64 : N ≤ 64 := by
    rw [hN]; unfold Ci.measuredN Ci.outN
    rw [if_neg (by omega), if_neg (by omega)]
    omega
  have hS := fits_sum hk1 hf
  have hS0 := (wsum_bound zs).1
  have hbits := fun (n m : Nat) hn hm w => bitsOf_any x h n m hn hm w
  have had := Lib.hid (fun w hA => added_any zs A N cp hl hz hm w hA)
  have hM := measured_any x h
  have hF := fun w hA => fits_any x h zs A N cp hl h1 hm hz w hA
  rw [hf] at hF
  have hz' := h.code
  have hle := h.fits.in_le
  have fb := fb_of h.f
  obtain ⟨k, f, b, l, W, c⟩ := x
  have hC := fun w => ccheck_any k f b l W c w
  have hI := fun w => cin_any k f b l W c h.fits w
  have hof := Lib.hid fb.hof
  unfold cvl NumBy at *
  rw [← hN] at hM
  rw [hz'] at hC
  simp only at hk1 hof hbits hS hW hL
  obtain ⟨nW, rfl⟩ := Int.eq_ofNat_of_zero_le (show 0 ≤ W by omega)
  obtain ⟨S, hS2⟩ := Int.eq_ofNat_of_zero_le hS0
  have hwb := fun w => wb_any 5 f b l (nW : Int) c (by omega) (by omega) w
  have hos := fun w => offset_any 5 f b l c nW (by omega) w
  simp only [Int.toNat_natCast] at *
  rw [hS2, Int.toNat_natCast]
  have hole := offN_le (W := nW) (by omega)
  have hble := bl_le (W := nW) (by omega)
  generalize (Ci.mk k f b l nW c).inN = I at *
  generalize offN nW = O at *
  generalize Lib.bitLen nW = B at *
  rw [hS2] at had hS
  have hbz := Lib.hid (hbits (S + O) B (by omega) (by omega))
  have zSO : IntKind.u64.wrap ((S : Int) + (O : Int)) = ((S + O : Nat) : Int) := by rw [IntKind.wrap_u64]; omega
  have zSO2 : (S : Int) + (O : Int) = ((S + O : Nat) : Int) := by omega
  have hlen : (ecells (bitsL (S + O) B)).length = B * 2 := by rw [ecells_length, bitsL_length]
  obtain ⟨T, hT⟩ : ∃ T, S + O = T := ⟨_, rfl⟩
  rw [hT] at hbz zSO zSO2 hlen ⊢
  replace hT := Lib.hid hT
  replace hlen := Lib.hid hlen
  replace hwb := Lib.hid hwb
  replace hos := Lib.hid hos
  replace hC := Lib.hid hC
  replace hM := Lib.hid hM
  replace hF := Lib.hid hF
  replace hI := Lib.hid hI
  replace hA := Lib.hid hA
  replace hz := Lib.hid hz
  replace hl := Lib.hid hl
  obtain ⟨i0, hinf, hz0, hz1, hz2⟩ := info_parts info_elemv
  replace hinf := Lib.hid hinf
  clear h hN hz' hf h1 e1 hbits hS2 hS0
  subst hk1
  go_enter Tryd.func21, Tryd.ntmps21
  go_upto_region 1 with (fail)
  refine name_wp (fun w1 => Below w.heap.size w w1 ∧ w1.heap[w.heap.size]? = some (.cells #[.int .u8 5, .int .u8 f, .int .i64 b, .int .i64 l, .int .i64 (nW : Int), .int .i64 c] 31 (0, 0))) ⟨(Below.refl _ _).alloc (Nat.le_refl _) _, alloc_at rfl⟩ ?_
  rintro w1 ⟨hb, k0⟩
  obtain ⟨c0, c1, c2, c3, c4, c5⟩ := blk6 k0
  go_wp2_with fail
  refine call_then (hC.out _) ?_
  intro w2 hb2
  replace hb := below_next hb hb.size hb2
  replace k0 := keeps hb2 k0
  clear hb2 c0 c1 c2 c3 c4 c5
  obtain ⟨c0, c1, c2, c3, c4, c5⟩ := blk6 k0
  go_wp2_with fail
  refine call_then (hM.out _) ?_
  intro w2 hb2
  replace hb := below_next hb hb.size hb2
  replace k0 := keeps hb2 k0
  clear hb2 c0 c1 c2 c3 c4 c5
  obtain ⟨c0, c1, c2, c3, c4, c5⟩ := blk6 k0
  go_wp2_with fail
  refine call_then (hF.out _ (hA.out.up hb)) ?_
  intro w2 hb2
  replace hb := below_next hb hb.size hb2
  replace k0 := keeps hb2 k0
  clear hb2 c0 c1 c2 c3 c4 c5
  obtain ⟨c0, c1, c2, c3, c4, c5⟩ := blk6 k0
  go_wp2_with fail
  refine call_then (hI.out _) ?_
  intro w2 hb2
  replace hb := below_next hb hb.size hb2
  replace k0 := keeps hb2 k0
  clear hb2 c0 c1 c2 c3 c4 c5
  obtain ⟨c0, c1, c2, c3, c4, c5⟩ := blk6 k0
  clear hC hM hF hI
  obtain ⟨cur, hmk, hcs⟩ := make_cap I (by omega) w2
  go_upto_region 9 with (fail)
  have hBw := hb.size
  have hpB := lt_of_get k0
  have hm3 := World.ownsRow_made (base := w2.heap.size) w2 cur I (Nat.le_refl _) (by unfold maxLen; omega) hcs (e := 65) (size := 2)
  refine name_wp (fun w3 => Below w.heap.size w w3 ∧ w3.heap[w.heap.size]? = some (.cells #[.int .u8 5, .int .u8 f, .int .i64 b, .int .i64 l, .int .i64 (nW : Int), .int .i64 c] 31 (0, 0)) ∧ w2.heap.size ≤ w3.heap.size ∧ w3.ownsRow w2.heap.size 65 2 (.slice (some ⟨w2.heap.size, 0, none⟩) 0 I) 0 (ecells [])) ⟨hb.alloc hb.size _, alloc_keeps k0, by simp, hm3⟩ ?_
  clear hb k0 hm3 hmk c0 c1 c2 c3 c4 c5
  generalize w2.heap.size = B0 at *
  rintro w3 ⟨hb, k0, hBs, hown⟩
  clear w2
  replace hBw := Lib.hid hBw
  replace hpB := Lib.hid hpB
  obtain ⟨c0, c1, c2, c3, c4, c5⟩ := blk6 k0
  go_wp2
  clear c0 c1 c2 c3 c4 c5
  go_loopw [33, 7] (fun i v wr => ∃ j : Nat, j ≤ N ∧ i = .int .i64 (j : Int) ∧ Below w.heap.size w wr ∧ wr.heap[w.heap.size]? = some (.cells #[.int .u8 5, .int .u8 f, .int .i64 b, .int .i64 l, .int .i64 (nW : Int), .int .i64 c] 31 (0, 0)) ∧ B0 ≤ wr.heap.size ∧ wr.ownsRow B0 65 2 v j (ecells (zs.take j))) (fun i _ _ => N - (intOf i).toNat)
  case atStart => exact ⟨0, Nat.zero_le _, rfl, hb, k0, hBs, hown⟩
  case round =>
    clear hb k0 hown hBs
    obtain ⟨j, hj, rfl, hb, k0, hBs, hown⟩ := hrel
    obtain ⟨c0, c1, c2, c3, c4, c5⟩ := blk6 k0
    by_cases hlt : j < N
    · have j1 : (j : Int) < (N : Int) := by omega
      have j0 : (0 : Int) ≤ (j : Int) := by omega
      obtain ⟨p, o, rfl, hc⟩ := hA.out j (by rw [hl.out]; exact hlt)
      have hc2 := (hb.cell (World.block_lt_of_cell? _ _ hc)).trans hc
      have hx := hz.out.at_ (k := j) (by rw [hl.out]; exact hlt)
      have hx1 := hle1.out (zs.getD j 0) (by rw [List.getD_eq_getElem?_getD, List.getElem?_eq_getElem (by rw [hl.out]; exact hlt)]; exact List.getElem_mem _)
      have hsn := Lib.hid (show ecells (zs.take (j + 1)) = ecells (zs.take j) ++ ecells [zs.getD j 0] by rw [take_snocD (by rw [hl.out]; exact hlt), ecells_append])
      generalize zs.getD j 0 = z at *
      have hoz := Lib.hid (hof.out z hx.1 (by omega))
      clear hc
      go_wp2_with fail
      refine call_then (hoz.out _) ?_
      intro w4 hb4
      have hown4 := ownsn_up hown hb4
      have hb5 := below_next hb hb.size hb4
      have k5 := keeps hb4 k0
      have hBs5 := Nat.le_trans hBs hb4.size
      clear hown hb4 hb k0 hBs hoz c0 c1 c2 c3 c4 c5
      have hown6 := Lib.hid (hown4.alloc (.cells #[.int .u64 (lo z), .int .u64 (hi z)] 65 (0, 0)))
      have hb6 := Lib.hid (hb5.alloc hb5.size (.cells #[.int .u64 (lo z), .int .u64 (hi z)] 65 (0, 0)))
      have k6 := Lib.hid (alloc_keeps (o := .cells #[.int .u64 (lo z), .int .u64 (hi z)] 65 (0, 0)) k5)
      have hBs6 : B0 ≤ (w4.alloc (.cells #[.int .u64 (lo z), .int .u64 (hi z)] 65 (0, 0))).heap.size := Nat.le_trans hBs5 (by simp)
      have t1 : j + 1 ≤ maxLen := by unfold maxLen; omega
      have t2 : (j + 1) * 16 ≤ 140737488355328 := by omega
      clear hb5 k5 hBs5 hown4
      go_wp2_with (at_builtin; refine wpList_append_own _ rfl _ _ 35 rfl B0 65 i0 (.agg #[.int .u64 0, .int .u64 0]) 2 16 Tryd.underlying35 hinf.out hz0 hz1 hz2 rfl (by decide) _ _ _ rfl hown6.out ⟨_, 0, none⟩ 1 1 (ecells [z]) rfl rfl (news_elem2 (by simp)) (ecells_one _) t1 t2 hBs6 ?_; intro v1 w7 hown7 hg7 _; have hb7 := grownn_below hb6.out hBw.out hown6.out hg7; have k7 := (hg7.block w.heap.size (lt_of_get k6.out) (fun e => by have := (hown6.out.lt _ e.symm).1; have := hpB.out; omega)).trans k6.out; have hBs7 := Nat.le_trans hBs6 hg7.size; clear hg7)
      refine ⟨⟨j + 1, by omega, by go_num, hb7, k7, hBs7, ?_⟩, by simp [intOf]; omega⟩
      rw [hsn.out]
      exact hown7
    · obtain rfl : N = j := by omega
      rw [List.take_of_length_le (by rw [hl.out]; exact Nat.le_refl _)] at hown
      have j1 : ¬ (N : Int) < (N : Int) := by omega
      go_wp2
      clear c0 c1 c2 c3 c4 c5
      refine seg_start 10 (by kernel_rfl) (by decide) ?_
      intro v0 hv
      replace hb := below_next hb hb.size hv
      replace k0 := keeps hv k0
      replace hown := ownsn_up hown hv
      replace hBs := Nat.le_trans hBs hv.size
      clear hv
      refine seg_batch 1 [0, 1, 2, 3, 4, 5, 6, 7, 8] (by kernel_rfl) rfl (by kernel_rfl) (by kernel_rfl) (by kernel_rfl) ?_
      apply Exists.intro
      refine ⟨fun ι _ φ hφ => ?_, fun v1 hv => ?_⟩
      · have q := fun i => blk6 (keeps (hφ.old i) k0)
        have q0 := fun i => (q i).1
        have q1 := fun i => (q i).2.1
        have q2 := fun i => (q i).2.2.1
        have q3 := fun i => (q i).2.2.2.1
        have q4 := fun i => (q i).2.2.2.2.1
        have q5 := fun i => (q i).2.2.2.2.2
        clear q
        have q9 := Lib.hid (fun i => (hA.out.up hb).up (hφ.old i))
        repeat (refine pick_step rfl ?_; go_big_quiet_step ((first | (go_at_call 59; exact flow_call hφ (had.out _ (q9.out _))) | (go_at_call 60; exact flow_call hφ (hos.out _)) | (go_at_call 61; exact flow_call hφ (hwb.out _)))))
        exact pick_end
      replace hb := below_next hb hb.size hv
      replace k0 := keeps hv k0
      replace hown := ownsn_up hown hv
      replace hBs := Nat.le_trans hBs hv.size
      clear hv
      refine seg_one 9 _ (by decide) rfl (by kernel_rfl) ?_
      intro v2 K hv hK
      replace hb := below_next hb hb.size hv
      replace k0 := keeps hv k0
      replace hown := ownsn_up hown hv
      replace hBs := Nat.le_trans hBs hv.size
      clear hv
      replace hK := Lib.hid hK
      go_simp
      refine (hbz.out _).mono ?_
      rintro e v3 ⟨g, rfl, hv, hg, hrow⟩
      refine hK.out _ _ hv ?_
      clear hK K
      replace hb := below_next hb hb.size hv
      replace k0 := keeps hv k0
      replace hown := ownsn_up hown hv
      replace hBs := Nat.le_trans hBs hv.size
      clear hv
      refine seg_tail (by kernel_rfl) ?_
      intro v4 hv
      have hnews := Lib.hid (row_news (hrow.up hv))
      replace hb := below_next hb hb.size hv
      replace k0 := keeps hv k0
      replace hown := ownsn_up hown hv
      replace hBs := Nat.le_trans hBs hv.size
      clear hv
      have t1 : N + B ≤ maxLen := by unfold maxLen; omega
      have t2 : (N + B) * 16 ≤ 140737488355328 := by omega
      replace hown := Lib.hid hown
      replace k0 := Lib.hid k0
      replace hb := Lib.hid hb
      clear hrow hg
      simp only [List.drop_succ_cons, List.drop_zero]
      go_wp2_with (at_builtin; refine wpList_append_own _ rfl _ _ 35 rfl B0 65 i0 (.agg #[.int .u64 0, .int .u64 0]) 2 16 Tryd.underlying35 hinf.out hz0 hz1 hz2 rfl (by decide) _ _ _ rfl hown.out ⟨g, 0, none⟩ B B (ecells (bitsL T B)) rfl hlen.out hnews.out (ecells_one _) t1 t2 hBs ?_; intro v5 w7 hown7 hg7 _; have hb7 := grownn_below hb.out hBw.out hown.out hg7; clear hg7)
      rw [← ecells_append] at hown7
      obtain ⟨a9, c9, rfl, hel, hlc, hfr⟩ := owns_out hown7
      refine calm_normal ?_
      obtain ⟨L, hL⟩ : ∃ L, zs ++ bitsL T B = L := ⟨_, rfl⟩
      rw [hL] at hel hlc ⊢
      replace hL := Lib.hid hL
      replace hel := Lib.hid hel
      replace hlc := Lib.hid hlc
      replace hfr := Lib.hid hfr
      clear hown7
      go_wp2
      go_ret2
      rw [hL.out]
      exact ⟨_, _, rfl, hb7, hel.out, hlc.out, fun a e => Nat.le_trans hBw.out (hfr.out a e)⟩
theorem make_cap0 (c : Nat) (hc : c ≤ 65536) (w : World) : (Instr.makeSlice 35 (.int .i64 0) (.int .i64 (c : Int))).run Tryd.prog w = .ok (.slice (some ⟨w.heap.size, 0, none⟩) 0 c) (w.alloc (.cells (ecells (List.replicate c 0)).toArray 65)) := by
  obtain ⟨i0, h0, h1, h2, h3⟩ := info_parts info_elem
  have hb : (i0.bytes : Int) * (c : Int) ≤ 281474976710656 := by rw [h3]; omega
  have hr := run_make (P := Tryd.prog) w 35 65 i0 _ Tryd.underlying35 h0 h1 .i64 .i64 0 c (by omega) (by omega) hb (by omega)
  simp only [Int.toNat_natCast] at hr
  rw [hr, h2]
  rw [made_zero]
  rfl
set_option maxRecDepth 20000 in
set_option maxHeartbeats 4000000 in
theorem enc_hist (x : Ci) (zs : List Int) (A : Option Addr) (N cp : Nat) (h : x.Good) (hN : N = x.measuredN) (hl : zs.length = N) (hm : N ≤ maxLen) (hz : WordsOK zs) (h1 : 1 ≤ N) (hf : fitsB x zs = true) (hk1 : x.k = 4) (w : World) (hA : WordsAt w A zs) : Calls Tryd.prog 21 #[cvl x, .slice A N cp] w (EncOut x (encL x zs) w) := by
  have e1 : encL x zs = (List.replicate x.l.toNat 0).set (zs.getD 0 0).toNat 1 := by unfold encL; rw [if_neg (by omega), if_pos hk1]
  rw [e1]
  have hL := h.fits.l (by omega)
  have eN : N = 1 := by rw [hN]; unfold Ci.measuredN; rw [if_pos hk1]
  have hlt : zs.getD 0 0 < x.l := by unfold fitsB at hf; rw [if_pos hk1] at hf; simpa using hf
  have hx := hz.at_ (k := 0) (by omega)
  have hIl : x.inN = x.l.toNat := by unfold Ci.inN; rw [if_neg (by omega), if_neg (by omega), if_neg (by omega), if_pos hk1]
  have hM := measured_any x h
  have hF := fun w hA => fits_any x h zs A N cp hl h1 hm hz w hA
  rw [hf] at hF
  have hz' := h.code
  have hle := h.fits.in_le
  have fb := fb_of h.f
  obtain ⟨k, f, b, l, W, c⟩ := x
  have hC := fun w => ccheck_any k f b l W c w
  have hI := fun w => cin_any k f b l W c h.fits w
  have hone := Lib.hid fb.hone
  obtain ⟨p, o, rfl, hc⟩ := hA 0 (by omega)
  unfold cvl NumBy at *
  rw [← hN] at hM
  rw [hz'] at hC
  simp only at hk1 hone hL hlt hIl
  obtain ⟨nl, rfl⟩ := Int.eq_ofNat_of_zero_le (show 0 ≤ l by omega)
  simp only [Int.toNat_natCast] at hIl ⊢
  rw [hIl] at hI hle
  generalize zs.getD 0 0 = z at *
  obtain ⟨Z, rfl⟩ := Int.eq_ofNat_of_zero_le hx.1
  rw [Int.toNat_natCast]
  have hZl : Z < nl := by omega
  have hmk := make_cap0 nl (by omega)
  subst eN
  replace hC := Lib.hid hC
  replace hM := Lib.hid hM
  replace hF := Lib.hid hF
  replace hI := Lib.hid hI
  replace hA := Lib.hid hA
  replace hz := Lib.hid hz
  replace hl := Lib.hid hl
  clear h hN hz' hf h1 e1 hIl hm
  subst hk1
  go_enter Tryd.func21, Tryd.ntmps21
  go_upto_region 1 with (fail)
  refine name_wp (fun w1 => Below w.heap.size w w1 ∧ w1.heap[w.heap.size]? = some (.cells #[.int .u8 4, .int .u8 f, .int .i64 b, .int .i64 (nl : Int), .int .i64 W, .int .i64 c] 31 (0, 0))) ⟨(Below.refl _ _).alloc (Nat.le_refl _) _, alloc_at rfl⟩ ?_
  rintro w1 ⟨hb, k0⟩
  obtain ⟨c0, c1, c2, c3, c4, c5⟩ := blk6 k0
  go_wp2_with fail
  refine call_then (hC.out _) ?_
  intro w2 hb2
  replace hb := below_next hb hb.size hb2
  replace k0 := keeps hb2 k0
  clear hb2 c0 c1 c2 c3 c4 c5
  obtain ⟨c0, c1, c2, c3, c4, c5⟩ := blk6 k0
  go_wp2_with fail
  refine call_then (hM.out _) ?_
  intro w2 hb2
  replace hb := below_next hb hb.size hb2
  replace k0 := keeps hb2 k0
  clear hb2 c0 c1 c2 c3 c4 c5
  obtain ⟨c0, c1, c2, c3, c4, c5⟩ := blk6 k0
  go_wp2_with fail
  refine call_then (hF.out _ (hA.out.up hb)) ?_
  intro w2 hb2
  replace hb := below_next hb hb.size hb2
  replace k0 := keeps hb2 k0
  clear hb2 c0 c1 c2 c3 c4 c5
  obtain ⟨c0, c1, c2, c3, c4, c5⟩ := blk6 k0
  go_wp2_with fail
  refine call_then (hI.out _) ?_
  intro w2 hb2
  replace hb := below_next hb hb.size hb2
  replace k0 := keeps hb2 k0
  clear hb2 c0 c1 c2 c3 c4 c5
  obtain ⟨c0, c1, c2, c3, c4, c5⟩ := blk6 k0
  clear hC hM hF hI
  go_upto_region 9 with (fail)
  have hBw := hb.size
  have hpB := lt_of_get k0
  have hcl := World.block_lt_of_cell? _ _ hc
  have hc2 := (hb.cell hcl).trans hc
  refine name_wp (fun w3 => Below w.heap.size w w3 ∧ w3.heap[w.heap.size]? = some (.cells #[.int .u8 4, .int .u8 f, .int .i64 b, .int .i64 (nl : Int), .int .i64 W, .int .i64 c] 31 (0, 0)) ∧ Row w3 w2.heap.size (List.replicate nl 0) ∧ w3.cell? ⟨p, o, none⟩ = some (.int .u64 (Z : Int))) ⟨hb.alloc hb.size _, alloc_keeps k0, alloc_at rfl, ((hb.alloc hb.size _).cell hcl).trans hc⟩ ?_
  clear hb k0 hmk c0 c1 c2 c3 c4 c5 hc hc2
  generalize w2.heap.size = B0 at *
  rintro w3 ⟨hb, k0, hr, hc⟩
  clear w2
  replace hBw := Lib.hid hBw
  replace hpB := Lib.hid hpB
  obtain ⟨c0, c1, c2, c3, c4, c5⟩ := blk6 k0
  have hZ0 : (0 : Int) ≤ (Z : Int) := by omega
  have hZ1 : (Z : Int) < (nl : Int) := by omega
  have hel : (List.replicate nl (0 : Int)).length = nl := by simp
  go_wp2
  refine wp_region_flow1 8 (by kernel_rfl) (by kernel_rfl) (by kernel_rfl) ?_
  apply Exists.intro
  refine ⟨fun ι _ φ hφ => ?_, fun wt hwt => ?_⟩
  · have q := fun i => blk6 (keeps (hφ.old i) k0)
    have q1 := fun i => (q i).2.1
    have q9 := fun i => hφ.cell hc i
    clear q
    simp only [List.take_succ_cons, List.take_zero]
    repeat (go_big_quiet_step ((first
      | (go_at_call 57; exact flow_call hφ (hone.out _)))))
    exact wpQuiet_nil rfl
  replace hb := below_next hb hb.size hwt
  replace k0 := keeps hwt k0
  replace hr := hr.up hwt
  clear hwt c0 c1 c2 c3 c4 c5 hc
  simp only [List.drop_succ_cons, List.drop_zero]
  have s0 := hr.lo (k := Z) (by omega)
  have s1 := hr.hi (k := Z) (by omega)
  have f0 := hr.free (Z * 2)
  have f1 := hr.free (Z * 2 + 1)
  have hr4 := hr.set (k := Z) (by omega) 1
  rw [show F.lo 1 = 1 by decide, show F.hi 1 = 0 by decide] at hr4
  have hb4 := below_store2' hb hBw.out (u := .int .u64 1) (v := .int .u64 0) (i := Z * 2) (k := Z * 2 + 1)
  have k4 := store2_farx k0 (show w.heap.size ≠ B0 by have := hpB.out; omega) (u := .int .u64 1) (v := .int .u64 0) (i := Z * 2) (j := Z * 2 + 1)
  obtain ⟨c0, c1, c2, c3, c4, c5⟩ := blk6 k4
  have hel4 : ((List.replicate nl (0 : Int)).set Z 1).length = nl := by simp
  obtain ⟨L, hLe⟩ : ∃ L, (List.replicate nl (0 : Int)).set Z 1 = L := ⟨_, rfl⟩
  rw [hLe] at hr4 hel4
  replace hLe := Lib.hid hLe
  replace hr4 := Lib.hid hr4
  replace hb4 := Lib.hid hb4
  replace hel4 := Lib.hid hel4
  clear hb k0 hr hel k4
  go_wp2
  go_ret2
  rw [hLe.out]
  refine ⟨some ⟨B0, 0, none⟩, nl, by rw [hel4.out]; rfl, hb4.out, hr4.out.elems, by rw [hel4.out]; exact Nat.le_refl _, fun a e => by cases e; exact hBw.out⟩
/-- What is measured as a vector. -/
theorem enc_ok (x : Ci) (zs : List Int) (A : Option Addr) (N cp : Nat) (h : x.Good) (hN : N = x.measuredN) (hl : zs.length = N) (hm : N ≤ maxLen) (hz : WordsOK zs) (hf : fitsB x zs = true) (w : World) (hA : WordsAt w A zs) : Calls Tryd.prog 21 #[cvl x, .slice A N cp] w (EncOut x (encL x zs) w) := by
  have h1 : 1 ≤ N := by
    rw [hN]; unfold Ci.measuredN Ci.outN
    have := h.fits.l
    have := h.fits.k1
    split
    · omega
    · split <;> omega
  have hk := h.fits.k1
  have hk5 := h.fits.k5
  have hc : x.k = 1 ∨ (x.k = 2 ∨ x.k = 3) ∨ x.k = 4 ∨ x.k = 5 := by omega
  rcases hc with e | e | e | e
  · exact enc_count x zs A N cp h hN hl hm hz h1 hf e w hA
  · exact enc_bits x zs A N cp h hN hl hm hz h1 hf e w hA
  · exact enc_hist x zs A N cp h hN hl hm hz h1 hf e w hA
  · exact enc_multi x zs A N cp h hN hl hm hz h1 hf e w hA
end Go.Proofs.YtpojhomccmfffaaDoor

/-
  The number that bits say; is a vector right?
-/
namespace Go.Proofs.YtpojhomccmfffaaDoor
open Go.RowKit Flow F
set_option linter.unusedVariables false
set_option linter.unusedSimpArgs false
attribute [local go_sem] eql_elem

theorem numF_bound (f : Int) (xs : List Int) : 0 ≤ numF f xs ∧ numF f xs < M f := by
  rcases xs.eq_nil_or_concat with rfl | ⟨ys, x, rfl⟩
  · exact ⟨Int.le_refl _, M_pos f⟩
  · rw [List.concat_eq_append, numF_snoc]
    exact add_bound _ _ _
theorem sumF_bound (f : Int) (xs : List Int) : 0 ≤ sumF f xs ∧ sumF f xs < M f := by
  rcases xs.eq_nil_or_concat with rfl | ⟨ys, x, rfl⟩
  · exact ⟨Int.le_refl _, M_pos f⟩
  · rw [List.concat_eq_append, sumF_snoc]
    exact add_bound _ _ _
theorem number_any (x : Ci) (h : x.Good) (xs : List Int) (A : Option Addr) (m c : Nat) (hl : xs.length = m) (h1 : 1 ≤ m) (hm : m ≤ 4096) (hx : ElemsOK xs) (w : World) (hA : ElemsAt w A xs) :
    Calls Tryd.prog 62 #[cvl x, .slice A m c] w fun e w' => e = .returned (.agg #[.int .u64 (lo (numF x.f xs)), .int .u64 (hi (numF x.f xs))]) ∧ Below w.heap.size w w' := by
  have fb := fb_of h.f
  obtain ⟨k, f, b, l, W, c'⟩ := x
  simp only at fb ⊢
  have hof := fb.hof 2 (by omega) (by omega)
  rw [show F.lo 2 = 2 by decide, show F.hi 2 = 0 by decide] at hof
  have hpw := fun w => fpowers_any f 2 m (mul f) (by omega) (by omega) (by omega) hm fb.hval fb.hone fb.hmul w
  rw [show F.lo 2 = 2 by decide, show F.hi 2 = 0 by decide] at hpw
  have hpl := powers_length (mul f) 2 m
  have hpo : ElemsOK (powers (mul f) 2 m) := fun y hy => by
    unfold powers at hy
    obtain ⟨i, _, rfl⟩ := List.mem_map.1 hy
    exact power_ok (op := mul f) (a := 2) (fun z z0 z1 => (fb.hmul z 2 z0 z1 (by omega) (by omega)).1) i
  have hdt := fun B d w hA hB => fdot_any f (mul f) (add f) xs (powers (mul f) 2 m) A B c d hx hpo (by omega) (by rw [hpl, hl]) fb.hval fb.hmul fb.hadd w hA hB
  rw [hl, hpl] at hdt
  have hnf : numF f xs = (List.zipWith (mul f) xs (powers (mul f) 2 m)).foldl (add f) 0 := by unfold numF; rw [hl]
  rw [← hnf] at hdt
  have hnb := numF_bound f xs
  have hM := M_lt f
  generalize numF f xs = v at *
  generalize powers (mul f) 2 m = ps at *
  unfold cvl
  replace hof := Lib.hid hof
  replace hpw := Lib.hid hpw
  replace hdt := Lib.hid hdt
  replace hA := Lib.hid hA
  replace hl := Lib.hid hl
  clear h fb hpl hpo hnf hx
  go_enter Tryd.func62, Tryd.ntmps62
  go_upto_region 1 with (fail)
  refine name_wp (fun w1 => Below w.heap.size w w1 ∧ w1.heap[w.heap.size]? = some (.cells #[.int .u8 k, .int .u8 f, .int .i64 b, .int .i64 l, .int .i64 W, .int .i64 c'] 31 (0, 0)) ∧ w1.heap[w.heap.size + 1]? = some (.cells #[.int .u64 0, .int .u64 0] 65 (0, 0))) ⟨((Below.refl _ _).alloc (Nat.le_refl _) _).alloc (by simp) _, alloc_keeps (alloc_at rfl), alloc_at (by simp)⟩ ?_
  rintro w1 ⟨hb, k0, k1⟩
  obtain ⟨c0, c1, c2, c3, c4, c5⟩ := blk6 k0
  go_wp2_with fail
  refine call_then (hof.out _) ?_
  intro w2 hv
  replace hb := below_next hb hb.size hv
  replace k1 := keeps hv k1
  clear k0 c0 c1 c2 c3 c4 c5 hv
  go_wp2_with fail
  refine (hpw.out _).mono ?_
  rintro e w3 ⟨g, rfl, hv, hg, hrow⟩
  replace hb := below_next hb hb.size hv
  replace k1 := keeps hv k1
  have hdt2 := Lib.hid (hdt.out (some ⟨g, 0, none⟩) m w3 (hA.out.up hb) hrow.elems)
  clear hv hrow hg
  go_wp2_with fail
  refine call_then hdt2.out ?_
  intro w4 hv
  replace hb := below_next hb hb.size hv
  replace k1 := keeps hv k1
  clear hdt2 hv
  have hsz := hb.size
  have hlt := lt_of_get k1
  obtain ⟨d0, d1, d2, d3⟩ := blk2 k1
  go_wp2
  have kk := alloc_keeps (o := .cells #[.int .u64 (F.lo v), .int .u64 (F.hi v)] 65 (0, 0)) (store2 (u := .int .u64 (F.lo v)) (v := .int .u64 (F.hi v)) k1)
  have hb4 := below_store2' hb (show w.heap.size ≤ w.heap.size + 1 by omega) (u := .int .u64 (F.lo v)) (v := .int .u64 (F.hi v)) (i := 0) (k := 1)
  obtain ⟨z0, z1, _, _⟩ := blk2 kk
  exact bodyPost_ret (v := .agg #[.int .u64 (F.lo v), .int .u64 (F.hi v)]) (by simp [results, Tryd.results62, go_sem, z0, z1]) rfl ⟨rfl, hb4.alloc hb4.size _⟩
/-- Is a vector right? -/
def validB (x : Ci) (xs : List Int) : Bool := bitsB xs && (if x.k = 4 then decide (ones xs = 1) else if x.k = 5 then decide (ones (xs.take x.l.toNat) + offN x.w.toNat = said (xs.drop x.l.toNat)) else true)
theorem bitsB_snoc (l : List Int) (x : Int) : bitsB (l ++ [x]) = (bitsB l && (x == 0 || x == 1)) := by rw [bitsB_append]; simp [bitsB]
theorem bitsB_of_take {l : List Int} {k : Nat} (h : k < l.length) (h0 : l.getD k 0 ≠ 0) (h1 : l.getD k 0 ≠ 1) : bitsB l = false := by
  unfold bitsB
  rw [List.all_eq_false]
  refine ⟨l[k], List.getElem_mem h, ?_⟩
  rw [List.getD_eq_getElem?_getD, List.getElem?_eq_getElem h] at h0 h1
  simpa using And.intro h0 h1
theorem lo_nat {n : Nat} (h : n < 18446744073709551616) : lo (n : Int) = (n : Int) := by unfold lo; omega
theorem hi_nat {n : Nat} (h : n < 18446744073709551616) : hi (n : Int) = 0 := by unfold hi; omega
theorem ElemsAt.take {w : World} {A : Option Addr} {xs : List Int} (h : ElemsAt w A xs) (l : Nat) : ElemsAt w A (xs.take l) := fun k hk => by
  rw [List.length_take] at hk
  obtain ⟨b, o, e, h0, h1⟩ := h k (by omega)
  have e2 : (xs.take l).getD k 0 = xs.getD k 0 := by
    rw [List.getD_eq_getElem?_getD, List.getD_eq_getElem?_getD, List.getElem?_take_of_lt (by omega)]
  rw [e2]
  exact ⟨b, o, e, h0, h1⟩
theorem ElemsAt.drop {w : World} {p o : Nat} {xs : List Int} (h : ElemsAt w (some ⟨p, o, none⟩) xs) (l : Nat) : ElemsAt w (some ⟨p, o + l * 2, none⟩) (xs.drop l) := fun k hk => by
  rw [List.length_drop] at hk
  obtain ⟨b, o', e, h0, h1⟩ := h (l + k) (by omega)
  cases e
  have e2 : (xs.drop l).getD k 0 = xs.getD (l + k) 0 := by
    rw [List.getD_eq_getElem?_getD, List.getD_eq_getElem?_getD, List.getElem?_drop]
  rw [e2]
  refine ⟨p, o + l * 2, rfl, ?_, ?_⟩
  · rw [show o + l * 2 + k * 2 = o + (l + k) * 2 by omega]; exact h0
  · rw [show o + l * 2 + k * 2 + 1 = o + (l + k) * 2 + 1 by omega]; exact h1
theorem bitsB_take {xs : List Int} (h : bitsB xs = true) (l : Nat) : bitsB (xs.take l) = true := by
  unfold bitsB at *
  rw [List.all_eq_true] at *
  exact fun x hx => h x (List.mem_of_mem_take hx)
theorem bitsB_drop {xs : List Int} (h : bitsB xs = true) (l : Nat) : bitsB (xs.drop l) = true := by
  unfold bitsB at *
  rw [List.all_eq_true] at *
  exact fun x hx => h x (List.mem_of_mem_drop hx)
end Go.Proofs.YtpojhomccmfffaaDoor

/-
  Is a vector of a Multihot right?
-/
namespace Go.Proofs.YtpojhomccmfffaaDoor
open Go.RowKit Flow F
set_option linter.unusedVariables false
set_option linter.unusedSimpArgs false
attribute [local go_sem] eql_elem

end Go.Proofs.YtpojhomccmfffaaDoor
