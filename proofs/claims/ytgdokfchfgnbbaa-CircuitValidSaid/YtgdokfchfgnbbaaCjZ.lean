/-
  What is measured as a vector, as the document says: a Multihot; any circuit.
-/
import Derived.Test.YtgdokfchfgnbbaaCjY
namespace Go.Proofs.Ytgdokfchfgnbbaa
open Go.RowKit Flow F
set_option linter.unusedVariables false
set_option linter.unusedSimpArgs false

set_option maxRecDepth 20000 in
set_option maxHeartbeats 4000000 in
theorem renc_multi (x : Ci) (h : x.Good) (h5 : x.k = 5) (zs : List Int) (A : Option Addr) (N cp : Nat) (hl : zs.length = N) (hN : N = x.measuredN) (hz : WordsOK zs) (w : World) (hA : WordsAt w A zs) :
    Calls Try.prog 34 #[rvl x, .slice A N cp] w (RencR (fitsB x zs) (encL x zs) w) := by
  have hW := h.fits.w h5
  have hL := h.fits.l (by omega)
  obtain ⟨nW, hnW⟩ := Int.eq_ofNat_of_zero_le (show 0 ≤ x.w by omega)
  have e1 : encL x zs = zs ++ bitsL ((wsum zs).toNat + offN nW) (Lib.bitLen nW) := by unfold encL; rw [if_neg (by omega), if_neg (by omega), if_pos h5, hnW]; simp
  have e2 : fitsB x zs = (allLe 1 zs && decide (wsum zs ≤ (nW : Int))) := by
    unfold fitsB allLe Ci.mostN
    rw [if_neg (by omega), if_neg (by omega), hnW]
    simp [h5]
  rw [e1, e2]
  clear e1 e2
  have hN64 : N ≤ 64 := by
    rw [hN]; unfold Ci.measuredN Ci.outN
    rw [if_neg (by omega), if_neg (by omega)]
    omega
  have hsum : allLe 1 zs = true → wsum zs = (ones zs : Int) := fun e => ones_wsum (fun z hz' => ⟨(hz z hz').1, by unfold allLe at e; rw [List.all_eq_true] at e; simpa using e z hz'⟩) (by omega)
  obtain ⟨R, hR⟩ : ∃ R, (allLe 1 zs && decide (wsum zs ≤ (nW : Int))) = R := ⟨_, rfl⟩
  have hfz := Lib.hid (fun (e : allLe 1 zs = false) => (hR.symm.trans (by rw [e]; rfl) : R = false))
  have hft := Lib.hid (fun (e : allLe 1 zs = true) => (hR.symm.trans (by rw [e, hsum e, Bool.true_and]) : R = decide ((ones zs : Int) ≤ (nW : Int))))
  rw [hR]
  clear hR
  have hO := rout_any x h
  have hz' := h.code
  unfold Ci.measuredN at hN
  obtain ⟨k, f, b, l, W, c⟩ := x
  have hC := fun w => rcheck_any k f b l W c w
  unfold rvl NumBy at *
  rw [hz'] at hC
  simp only at h5 hN hW hL hnW
  subst h5 hnW
  rw [if_neg (by omega)] at hN
  rw [← hN] at hO
  have hof := Lib.hid (fun w => roffset_any 5 f b l c nW (by omega) w)
  have hwb := Lib.hid (fun w => rwb_any 5 f b l (nW : Int) c (by omega) (by omega) w)
  simp only [Int.toNat_natCast] at hwb
  have hole := offN_le (W := nW) (by omega)
  have hble := bl_le (W := nW) (by omega)
  generalize offN nW = O at *
  generalize Lib.bitLen nW = Bw at *
  replace hsum := Lib.hid hsum
  obtain ⟨i0, hinf, hz0, hz1, hz2⟩ := info_parts info_word
  replace hinf := Lib.hid hinf
  replace hC := Lib.hid hC
  replace hO := Lib.hid hO
  replace hA := Lib.hid hA
  replace hl := Lib.hid hl
  replace hz := Lib.hid hz
  clear h hz' hN
  go_enter Try.func34, Try.ntmps34
  go_upto_region 1 with (fail)
  refine name_wp (fun w1 => Below w.heap.size w w1 ∧ w1.heap[w.heap.size]? = some (.cells #[.int .i64 5, .int .i64 f, .int .i64 b, .int .i64 l, .int .i64 (nW : Int), .int .i64 c] 32 (0, 0))) ⟨(Below.refl _ _).alloc (Nat.le_refl _) _, alloc_at rfl⟩ ?_
  rintro w1 ⟨hb, k0⟩
  obtain ⟨c0, c1, c2, c3, c4, c5⟩ := blk6 k0
  go_wp2_with fail
  refine call_then (hC.out _) ?_
  intro w2 hb2
  replace hb := below_next hb hb.size hb2
  replace k0 := keeps hb2 k0
  clear hb2 c0 c1 c2 c3 c4 c5
  obtain ⟨c0, c1, c2, c3, c4, c5⟩ := blk6 k0
  go_wp2_with fail
  refine call_then (hO.out _) ?_
  intro w2 hb2
  replace hb := below_next hb hb.size hb2
  replace k0 := keeps hb2 k0
  clear hb2 c0 c1 c2 c3 c4 c5
  obtain ⟨c0, c1, c2, c3, c4, c5⟩ := blk6 k0
  clear hC hO
  go_wp2
  have hBw := hb.size
  have hpB := lt_of_get k0
  obtain ⟨B0, hB0⟩ : ∃ B0, B0 = w2.heap.size := ⟨_, rfl⟩
  rw [← hB0] at hBw hpB
  have hBs : B0 ≤ w2.heap.size := Nat.le_of_eq hB0
  have hown : w2.ownsRow B0 43 1 (.slice none 0 0) 0 (wcells []) := World.ownsRow_nil _ _ _ _
  replace hBw := Lib.hid hBw
  replace hpB := Lib.hid hpB
  clear hB0 c0 c1 c2 c3 c4 c5
  go_loopw [10, 8, 9] (fun i v o wr => ∃ j S : Nat, j ≤ N ∧ S ≤ j ∧ i = .int .i64 (j : Int) ∧ o = .int .i64 (S : Int) ∧ Hid (S = ones (zs.take j)) ∧ Below w.heap.size w wr ∧ wr.heap[w.heap.size]? = some (.cells #[.int .i64 5, .int .i64 f, .int .i64 b, .int .i64 l, .int .i64 (nW : Int), .int .i64 c] 32 (0, 0)) ∧ B0 ≤ wr.heap.size ∧ wr.ownsRow B0 43 1 v j (wcells (zs.take j)) ∧ Hid (allLe 1 (zs.take j) = true)) (fun i _ _ _ => N - (intOf i).toNat)
  case atStart => exact ⟨0, 0, Nat.zero_le _, Nat.le_refl _, rfl, rfl, Lib.hid rfl, hb, k0, hBs, hown, Lib.hid rfl⟩
  case round =>
    clear hb k0 hBs hown
    obtain ⟨j, S, hj, hSj, rfl, rfl, hS, hb, k0, hBs, hown, hall⟩ := hrel
    obtain ⟨c0, c1, c2, c3, c4, c5⟩ := blk6 k0
    by_cases hlt : j < N
    · have j1 : (j : Int) < (N : Int) := by omega
      have j0 : (0 : Int) ≤ (j : Int) := by omega
      obtain ⟨p, o, rfl, hc⟩ := hA.out j (by rw [hl.out]; exact hlt)
      have hc2 := (hb.cell (World.block_lt_of_cell? _ _ hc)).trans hc
      have hx := hz.out.at_ (k := j) (by rw [hl.out]; exact hlt)
      have hsn := Lib.hid (show wcells (zs.take (j + 1)) = wcells (zs.take j) ++ [.int .u64 (zs.getD j 0)] by rw [take_snocD (by rw [hl.out]; exact hlt), wcells_append]; rfl)
      have hsu := Lib.hid (show ones (zs.take (j + 1)) = ones (zs.take j) + (zs.getD j 0).toNat by rw [take_snocD (by rw [hl.out]; exact hlt), ones_append]; simp [ones])
      have hal := Lib.hid (show allLe 1 (zs.take (j + 1)) = (allLe 1 (zs.take j) && decide (zs.getD j 0 ≤ 1)) by rw [take_snocD (by rw [hl.out]; exact hlt), allLe_snoc])
      have hbad := Lib.hid (fun hn => allLe_of_take (m := 1) (l := zs) (k := j) (by rw [hl.out]; exact hlt) hn)
      generalize zs.getD j 0 = z at *
      obtain ⟨Z, rfl⟩ := Int.eq_ofNat_of_zero_le hx.1
      clear hc
      by_cases hbg : 1 < Z
      · have hd := Lib.hid (hfz.out (hbad.out (by omega)))
        have b1 : (1 : Int) < (Z : Int) := by omega
        clear hbg
        go_wp2
        go_ret2
        exact .bad hd.out ⟨rfl, hb⟩
      · have b1 : ¬ (1 : Int) < (Z : Int) := by omega
        have b2 : (Z : Int) ≤ 1 := by omega
        obtain ⟨S2, hS2⟩ : ∃ S2, S + Z = S2 := ⟨_, rfl⟩
        have hS3 : Hid (S2 = ones (zs.take (j + 1))) := Lib.hid (by rw [hsu.out, ← hS.out, Int.toNat_natCast]; omega)
        have hall2 : Hid (allLe 1 (zs.take (j + 1)) = true) := Lib.hid (by rw [hal.out, hall.out]; simpa using b2)
        have zS : (S : Int) + (Z : Int) = (S2 : Int) := by omega
        have zS2 : IntKind.i64.wrap ((S : Int) + (Z : Int)) = (S2 : Int) := wrap_i (by omega) (by omega)
        have hS4 : S2 ≤ j + 1 := by omega
        replace hS2 := Lib.hid hS2
        clear hbg
        have hown6 := Lib.hid (hown.alloc (.cells #[.int .u64 (Z : Int)] 43 (0, 0)))
        have hb6 := Lib.hid (hb.alloc hb.size (.cells #[.int .u64 (Z : Int)] 43 (0, 0)))
        have k6 := Lib.hid (alloc_keeps (o := .cells #[.int .u64 (Z : Int)] 43 (0, 0)) k0)
        have hBs6 : B0 ≤ (wr.alloc (.cells #[.int .u64 (Z : Int)] 43 (0, 0))).heap.size := Nat.le_trans hBs (by simp)
        have t1 : j + 1 ≤ maxLen := by unfold maxLen; omega
        have t2 : (j + 1) * 8 ≤ 140737488355328 := by omega
        clear hown hb k0 hBs
        go_wp2_with (at_builtin; refine wpList_append_own _ rfl _ _ 46 rfl B0 43 i0 (.int .u64 0) 1 8 Try.underlying46 hinf.out hz0 hz1 hz2 rfl (by decide) _ _ _ rfl hown6.out ⟨_, 0, none⟩ 1 1 [.int .u64 (Z : Int)] rfl rfl (news_word (by simp)) (by simp [Value.oneCell']) t1 t2 hBs6 ?_; intro v1 w7 hown7 hg7 _; have hb7 := grownn_below hb6.out hBw.out hown6.out hg7; have k7 := (hg7.block w.heap.size (lt_of_get k6.out) (fun e => by have := (hown6.out.lt _ e.symm).1; have := hpB.out; omega)).trans k6.out; have hBs7 := Nat.le_trans hBs6 hg7.size; clear hg7)
        refine ⟨⟨j + 1, S2, by omega, hS4, by go_num, rfl, hS3, hb7, k7, hBs7, ?_, hall2⟩, by simp [intOf]; omega⟩
        rw [hsn.out]
        exact hown7
    · obtain rfl : N = j := by omega
      rw [List.take_of_length_le (by rw [hl.out]; exact Nat.le_refl _)] at hown hall hS
      have j1 : ¬ (N : Int) < (N : Int) := by omega
      have hs := hsum.out hall.out
      have hs0 : Hid (wsum zs = (S : Int)) := Lib.hid (by rw [hs, ← hS.out])
      have hft2 := hft.out hall.out
      rw [← hS.out] at hs hft2
      by_cases hgt : nW < S
      · have hd := Lib.hid (hft2.trans (show decide ((S : Int) ≤ (nW : Int)) = false by simp; omega))
        have b1 : (nW : Int) < (S : Int) := by omega
        clear hgt hft2 hs
        go_wp2
        go_ret2
        exact .bad hd.out ⟨rfl, hb⟩
      · have hd := Lib.hid (hft2.trans (show decide ((S : Int) ≤ (nW : Int)) = true by simp; omega))
        have b1 : ¬ (nW : Int) < (S : Int) := by omega
        obtain ⟨T, hT⟩ : ∃ T, S + O = T := ⟨_, rfl⟩
        have zT : (S : Int) + (O : Int) = (T : Int) := by omega
        have zT2 : IntKind.i64.wrap ((S : Int) + (O : Int)) = (T : Int) := wrap_i (by omega) (by omega)
        have hT2 : T ≤ 300 := by omega
        replace hT := Lib.hid hT
        clear hgt hft2 hs
        go_wp2_with fail
        refine call_then (hof.out _) ?_
        intro w4 hv
        replace hb := below_next hb hb.size hv
        replace k0 := keeps hv k0
        replace hown := ownsn_up hown hv
        replace hBs := Nat.le_trans hBs hv.size
        clear hv c0 c1 c2 c3 c4 c5
        go_wp2
        have hown0 : w4.ownsRow B0 43 1 u8 (N + 0) (wcells (zs ++ bitsL T 0)) := by
          rw [show bitsL T 0 = [] from rfl, List.append_nil]; exact hown
        clear hown
        go_loopw [16, 8, 15] (fun i v n wr => ∃ q V : Nat, q ≤ Bw ∧ i = .int .i64 (q : Int) ∧ n = .int .i64 (V : Int) ∧ V ≤ 300 ∧ Hid (V = T / 2 ^ q) ∧ Below w.heap.size w wr ∧ wr.heap[w.heap.size]? = some (.cells #[.int .i64 5, .int .i64 f, .int .i64 b, .int .i64 l, .int .i64 (nW : Int), .int .i64 c] 32 (0, 0)) ∧ B0 ≤ wr.heap.size ∧ wr.ownsRow B0 43 1 v (N + q) (wcells (zs ++ bitsL T q))) (fun i _ _ _ => Bw - (intOf i).toNat)
        case atStart => exact ⟨0, T, Nat.zero_le _, rfl, rfl, hT2, Lib.hid (by rw [Nat.pow_zero, Nat.div_one]), hb, k0, hBs, hown0⟩
        case round =>
          clear hb k0 hBs hown0
          obtain ⟨q, V, hq, rfl, rfl, hV1, hV, hb, k0, hBs, hown⟩ := hrel
          obtain ⟨c0, c1, c2, c3, c4, c5⟩ := blk6 k0
          go_wp2_with fail
          refine call_then (hwb.out _) ?_
          intro wr hv
          replace hb := below_next hb hb.size hv
          replace k0 := keeps hv k0
          replace hown := ownsn_up hown hv
          replace hBs := Nat.le_trans hBs hv.size
          clear hv c0 c1 c2 c3 c4 c5
          by_cases hltq : q < Bw
          · have q1 : (q : Int) < (Bw : Int) := by omega
            have q0 : (0 : Int) ≤ (q : Int) := by omega
            obtain ⟨Bt, hBt⟩ : ∃ Bt : Nat, V % 2 = Bt := ⟨_, rfl⟩
            have zb1 : (V : Int).tmod 2 = (Bt : Int) := by rw [← hBt]; rfl
            have zb2 : (V : Int) % 2 = (Bt : Int) := by omega
            obtain ⟨V2, hV2⟩ : ∃ V2 : Nat, V / 2 = V2 := ⟨_, rfl⟩
            have zv1 : (V : Int).tdiv 2 = (V2 : Int) := by rw [← hV2]; rfl
            have zv2 : (V : Int) / 2 = (V2 : Int) := by omega
            have zw1 : IntKind.u64.wrap (Bt : Int) = (Bt : Int) := by rw [IntKind.wrap_u64]; omega
            have zw3 : IntKind.i64.wrap (Bt : Int) = (Bt : Int) := wrap_i rfl (by omega)
            have zw2 : IntKind.i64.wrap (V2 : Int) = (V2 : Int) := wrap_i rfl (by omega)
            have hbs := Lib.hid (show wcells (zs ++ bitsL T (q + 1)) = wcells (zs ++ bitsL T q) ++ [.int .u64 (Bt : Int)] by
              rw [bitsL_snoc, ← List.append_assoc, wcells_append]
              have : bitN T q = Bt := by rw [← hBt, hV.out]; rfl
              rw [this]
              rfl)
            have hV3 : Hid (V2 = T / 2 ^ (q + 1)) := Lib.hid (by rw [← hV2, hV.out, Nat.div_div_eq_div_mul, Nat.pow_succ])
            have hV4 : V2 ≤ 300 := by omega
            replace hBt := Lib.hid hBt
            replace hV2 := Lib.hid hV2
            have hown6 := Lib.hid (hown.alloc (.cells #[.int .u64 (Bt : Int)] 43 (0, 0)))
            have hb6 := Lib.hid (hb.alloc hb.size (.cells #[.int .u64 (Bt : Int)] 43 (0, 0)))
            have k6 := Lib.hid (alloc_keeps (o := .cells #[.int .u64 (Bt : Int)] 43 (0, 0)) k0)
            have hBs6 : B0 ≤ (wr.alloc (.cells #[.int .u64 (Bt : Int)] 43 (0, 0))).heap.size := Nat.le_trans hBs (by simp)
            have t1 : (N + q) + 1 ≤ maxLen := by unfold maxLen; omega
            have t2 : ((N + q) + 1) * 8 ≤ 140737488355328 := by omega
            clear hown hb k0 hBs
            go_wp2_with (at_builtin; refine wpList_append_own _ rfl _ _ 46 rfl B0 43 i0 (.int .u64 0) 1 8 Try.underlying46 hinf.out hz0 hz1 hz2 rfl (by decide) _ _ _ rfl hown6.out ⟨_, 0, none⟩ 1 1 [.int .u64 (Bt : Int)] rfl rfl (news_word (by simp)) (by simp [Value.oneCell']) t1 t2 hBs6 ?_; intro v1 w7 hown7 hg7 _; have hb7 := grownn_below hb6.out hBw.out hown6.out hg7; have k7 := (hg7.block w.heap.size (lt_of_get k6.out) (fun e => by have := (hown6.out.lt _ e.symm).1; have := hpB.out; omega)).trans k6.out; have hBs7 := Nat.le_trans hBs6 hg7.size; clear hg7)
            refine ⟨⟨q + 1, V2, by omega, by go_num, rfl, hV4, hV3, hb7, k7, hBs7, ?_⟩, by simp [intOf]; omega⟩
            rw [hbs.out]
            exact hown7
          · obtain rfl : Bw = q := by omega
            have q1 : ¬ (Bw : Int) < (Bw : Int) := by omega
            obtain ⟨a9, c9, rfl, hW⟩ := owns_words hown
            obtain ⟨L, hL⟩ : ∃ L, zs ++ bitsL T Bw = L := ⟨_, rfl⟩
            rw [hL] at hW ⊢
            replace hL := Lib.hid hL
            replace hW := Lib.hid hW
            clear hown
            go_wp2
            go_ret2
            refine .good hd.out ⟨a9, c9, ?_, hb, ?_⟩
            · rw [hs0.out, Int.toNat_natCast, hT.out, hL.out]; rfl
            · rw [hs0.out, Int.toNat_natCast, hT.out, hL.out]; exact hW.out
/-- The document's Encode. -/
theorem renc_ok (x : Ci) (h : x.Good) (zs : List Int) (A : Option Addr) (N cp : Nat) (hl : zs.length = N) (hN : N = x.measuredN) (hz : WordsOK zs) (w : World) (hA : WordsAt w A zs) :
    Calls Try.prog 34 #[rvl x, .slice A N cp] w (RencR (fitsB x zs) (encL x zs) w) := by
  have hk := h.fits.k1
  have hk5 := h.fits.k5
  have hc : x.k = 1 ∨ (x.k = 2 ∨ x.k = 3) ∨ x.k = 4 ∨ x.k = 5 := by omega
  rcases hc with e | e | e | e
  · exact renc_count x h e zs A N cp hl hN hz w hA
  · exact renc_bits x h e zs A N cp hl hN hz w hA
  · exact renc_hist x h e zs A N cp hl hN hz w hA
  · exact renc_multi x h e zs A N cp hl hN hz w hA
end Go.Proofs.Ytgdokfchfgnbbaa
