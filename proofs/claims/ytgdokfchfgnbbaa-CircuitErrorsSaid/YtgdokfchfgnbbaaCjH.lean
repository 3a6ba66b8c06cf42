/-
  Is a vector of a Multihot right?
-/
import Derived.Test.YtgdokfchfgnbbaaCjG
namespace Go.Proofs.Ytgdokfchfgnbbaa
open Go.RowKit Flow F
set_option linter.unusedVariables false
set_option linter.unusedSimpArgs false
attribute [local go_sem] eql_elem

set_option maxRecDepth 20000 in
set_option maxHeartbeats 4000000 in
theorem valid_multi (x : Ci) (h : x.Good) (h5 : x.k = 5) (xs : List Int) (A : Option Addr) (N cp : Nat) (hl : xs.length = N) (hN : N = x.inN) (hcp : N ≤ cp) (hx : InF x.f xs) (w : World) (hA : ElemsAt w A xs) : Calls Try.prog 36 #[cvl x, .slice A N cp] w fun e w' => e = .returned (.bool (validB x xs)) ∧ Below w.heap.size w w' := by
  have hW := h.fits.w h5
  have hL := h.fits.l (by omega)
  obtain ⟨L, hLe⟩ := Int.eq_ofNat_of_zero_le (show 0 ≤ x.l by omega)
  obtain ⟨nW, hWe⟩ := Int.eq_ofNat_of_zero_le (show 0 ≤ x.w by omega)
  have hNe : N = L + Lib.bitLen nW := by rw [hN]; unfold Ci.inN; rw [if_neg (by omega), if_neg (by omega), if_neg (by omega), if_neg (by omega), hLe, hWe]; simp
  have hbl := bl_le (W := nW) (by omega)
  have hbl1 := (bl_small ⟨nW, by omega⟩).2.2 (by simp only; omega)
  simp only at hbl1
  have hole := offN_le (W := nW) (by omega)
  have htl : (xs.take L).length = L := by simp; omega
  have hdl : (xs.drop L).length = N - L := by simp [hl]
  have hnum := fun A w hA => number_any x h (xs.drop L) A (N - L) (cp - L) hdl (by omega) (by omega) (hx.drop L).ok w hA
  have hsm := fun c w hA => fsum_gen x.f (add x.f) (xs.take L) A c (hx.take L).ok (by unfold maxLen; rw [htl]; omega) (fb_of h.f).hadd w hA
  rw [htl] at hsm
  rw [show List.foldl (add x.f) 0 (xs.take L) = sumF x.f (xs.take L) from rfl] at hsm
  have hsb := fun (e : bitsB xs = true) => sumF_bits x.f (bitsB_take e L) (by rw [htl]; omega)
  have hol := fun (e : bitsB xs = true) => ones_le (bitsB_take e L)
  have hnb := fun (e : bitsB xs = true) => numF_bits x.f (bitsB_drop e L) (by rw [hdl]; omega)
  have hnl := fun (e : bitsB xs = true) => said_lt (bitsB_drop e L)
  have hpw := pow_le7 (b := N - L) (by omega)
  rw [htl] at hol
  rw [hdl] at hnl
  have hR := fun w => right_good h w
  have hI := fun w => cin_any x.k x.f x.b x.l x.w x.c h.fits w
  have hle := h.fits.in_le
  have fb := fb_of h.f
  rw [show (Ci.mk x.k x.f x.b x.l x.w x.c) = x from rfl, ← hN] at hI
  have hof := Lib.hid fb.hof
  have hend : bitsB xs = true → validB x xs = decide (ones (xs.take L) + offN nW = said (xs.drop L)) := fun e => by
    unfold validB
    rw [e, if_neg (by omega), if_pos h5, hLe, hWe]
    simp
  obtain ⟨k, f, b, l, W, c⟩ := x
  simp only at h5 hLe hWe hof hnum hsm hsb hnb hW hL
  subst h5 hLe hWe
  have hos := fun w => offset_any 5 f b (L : Int) c nW (by omega) w
  generalize offN nW = O at *
  replace hend := Lib.hid hend
  replace hsm := Lib.hid hsm
  replace hsb := Lib.hid hsb
  replace hol := Lib.hid hol
  replace hnum := Lib.hid hnum
  replace hnb := Lib.hid hnb
  replace hnl := Lib.hid hnl
  replace hos := Lib.hid hos
  have hLN : L < N := by omega
  clear hNe hbl hbl1 htl hdl hL hW
  have hadd := Lib.hid fb.hadd
  have hone := Lib.hid fb.hone
  unfold cvl at *
  simp only at hI hx hadd hone
  rw [← hN] at hle
  replace hR := Lib.hid hR
  replace hI := Lib.hid hI
  replace hA := Lib.hid hA
  replace hl := Lib.hid hl
  replace hN := Lib.hid hN
  replace hx := Lib.hid hx
  replace h := Lib.hid h
  go_enter Try.func36, Try.ntmps36
  go_upto_region 1 with (fail)
  refine name_wp (fun w1 => Below w.heap.size w w1 ∧ w1.heap[w.heap.size]? = some (.cells #[.int .u8 5, .int .u8 f, .int .i64 b, .int .i64 (L : Int), .int .i64 (nW : Int), .int .i64 c] 25 (0, 0))) ⟨(Below.refl _ _).alloc (Nat.le_refl _) _, alloc_at rfl⟩ ?_
  rintro w1 ⟨hb, k0⟩
  obtain ⟨c0, c1, c2, c3, c4, c5⟩ := blk6 k0
  go_wp2_with fail
  refine call_then (hR.out _) ?_
  intro w2 hb2
  replace hb := below_next hb hb.size hb2
  replace k0 := keeps hb2 k0
  clear hb2 c0 c1 c2 c3 c4 c5
  obtain ⟨c0, c1, c2, c3, c4, c5⟩ := blk6 k0
  go_wp2_with fail
  refine call_then (hI.out _) ?_
  intro w2 hb2
  replace hb := below_next hb hb.size hb2
  replace k0 := keeps hb2 k0
  clear hb2 c0 c1 c2 c3 c4 c5
  obtain ⟨c0, c1, c2, c3, c4, c5⟩ := blk6 k0
  clear hR hI
  go_wp2
  clear c0 c1 c2 c3 c4 c5
  go_loopw [23] (fun i wr => ∃ j : Nat, j ≤ N ∧ i = .int .i64 (j : Int) ∧ Below w.heap.size w wr ∧ wr.heap[w.heap.size]? = some (.cells #[.int .u8 5, .int .u8 f, .int .i64 b, .int .i64 (L : Int), .int .i64 (nW : Int), .int .i64 c] 25 (0, 0)) ∧ Hid (bitsB (xs.take j) = true)) (fun i _ => N - (intOf i).toNat)
  case atStart => exact ⟨0, Nat.zero_le _, rfl, hb, k0, Lib.hid rfl⟩
  case round =>
    clear hb k0
    obtain ⟨j, hj, rfl, hb, k0, hall⟩ := hrel
    by_cases hlt : j < N
    · have j1 : (j : Int) < (N : Int) := by omega
      have j0 : (0 : Int) ≤ (j : Int) := by omega
      obtain ⟨p, o, rfl, hc0, hc1⟩ := hA.out j (by rw [hl.out]; exact hlt)
      have hd0 := (hb.cell (World.block_lt_of_cell? _ _ hc0)).trans hc0
      have hd1 := (hb.cell (World.block_lt_of_cell? _ _ hc1)).trans hc1
      have hz := hx.out.at_ (k := j) (by rw [hl.out]; exact hlt)
      have hsn := take_snocD (l := xs) (k := j) (by rw [hl.out]; exact hlt)
      have hbad := bitsB_of_take (l := xs) (k := j) (by rw [hl.out]; exact hlt)
      generalize xs.getD j 0 = z at *
      have hM := M_lt f
      have hsm := fun B w (hB : ElemsAt w B [z]) => fsum_gen f (add f) [z] B 1 (fun y hy => by rw [List.mem_singleton.1 hy]; omega) (by unfold maxLen; simp) hadd.out w hB
      have hfd : List.foldl (add f) 0 [z] = z := add_zero_in hz.1 hz.2
      rw [hfd] at hsm
      have hll := hb.size
      clear hc0 hc1 hfd
      replace hsm := Lib.hid hsm
      replace hsn := Lib.hid hsn
      replace hbad := Lib.hid hbad
      have hel : ElemsAt ((wr.alloc (.cells #[.int .u64 (lo z), .int .u64 (hi z)] 56)).alloc (.cells #[.int .u64 (lo z), .int .u64 (hi z)] 56)) (some ⟨wr.heap.size + 1, 0, none⟩) [z] := Row.elems (show Row _ _ _ from alloc_at (by simp))
      have hb4 := (hb.alloc hb.size (.cells #[.int .u64 (lo z), .int .u64 (hi z)] 56)).alloc (by have := hb.size; simp; omega) (.cells #[.int .u64 (lo z), .int .u64 (hi z)] 56)
      have k4 := alloc_keeps (o := .cells #[.int .u64 (lo z), .int .u64 (hi z)] 56) (alloc_keeps (o := .cells #[.int .u64 (lo z), .int .u64 (hi z)] 56) k0)
      replace hel := Lib.hid hel
      replace hb4 := Lib.hid hb4
      replace k4 := Lib.hid k4
      clear hb k0
      go_wp2_with fail
      refine call_then (hsm.out _ _ hel.out) ?_
      intro w4 hv
      have hb5 := below_next hb4.out hb4.out.size hv
      have k5 := keeps hv k4.out
      clear hv hel hb4 k4 hd0 hd1 hsm hll
      go_upto_region 8 with (fail)
      refine name_wp (fun w5 => Below w.heap.size w w5 ∧ w5.heap[w.heap.size]? = some (.cells #[.int .u8 5, .int .u8 f, .int .i64 b, .int .i64 (L : Int), .int .i64 (nW : Int), .int .i64 c] 25 (0, 0)) ∧ w5.heap[w4.heap.size]? = some (.cells #[.int .u64 (lo z), .int .u64 (hi z)] 56 (0, 0))) ⟨hb5.alloc hb5.size _, alloc_keeps k5, alloc_at rfl⟩ ?_
      clear hb5 k5
      generalize w4.heap.size = q at *
      clear w4
      rintro w5 ⟨hb, k0, kq⟩
      by_cases hz0 : z = 0
      · subst hz0
        have hall2 : Hid (bitsB (xs.take (j + 1)) = true) := Lib.hid (by rw [hsn.out, bitsB_snoc, hall.out]; rfl)
        rw [show lo 0 = 0 by decide, show hi 0 = 0 by decide] at *
        refine wp_region_flow0 (by kernel_rfl) (by kernel_rfl) ?_
        intro ι _ φ hφ
        obtain ⟨q0, q1⟩ := hφ.two kq
        repeat (go_big_quiet_step ((go_at_call 68; exact flow_call hφ (hone.out _))))
        refine wpQuiet_nil ?_
        intro w6 hv
        replace hb := below_next hb hb.size hv
        replace k0 := keeps hv k0
        clear hv q0 q1 kq hφ
        go_wp2
        exact ⟨⟨j + 1, by omega, by go_num, hb, k0, hall2⟩, by simp [intOf]; omega⟩
      · by_cases hz1 : z = 1
        · subst hz1
          have hall2 : Hid (bitsB (xs.take (j + 1)) = true) := Lib.hid (by rw [hsn.out, bitsB_snoc, hall.out]; rfl)
          rw [show lo 1 = 1 by decide, show hi 1 = 0 by decide] at *
          refine wp_region_flow0 (by kernel_rfl) (by kernel_rfl) ?_
          intro ι _ φ hφ
          obtain ⟨q0, q1⟩ := hφ.two kq
          repeat (go_big_quiet_step ((go_at_call 68; exact flow_call hφ (hone.out _))))
          refine wpQuiet_nil ?_
          intro w6 hv
          replace hb := below_next hb hb.size hv
          replace k0 := keeps hv k0
          clear hv q0 q1 kq hφ
          go_wp2
          exact ⟨⟨j + 1, by omega, by go_num, hb, k0, hall2⟩, by simp [intOf]; omega⟩
        · have hv : validB (Ci.mk 5 f b (L : Int) (nW : Int) c) xs = false := by unfold validB; rw [hbad.out hz0 hz1]; rfl
          have e0 : (lo z == 0 && hi z == 0) = false := by
            have h1 := val_lohi z
            rw [Bool.and_eq_false_iff]
            by_cases h2 : lo z = 0
            · right; rw [beq_eq_false_iff_ne]; intro h3; rw [h2, h3] at h1; apply hz0; rw [← h1]; rfl
            · left; simpa using h2
          have e1 : (lo z == 1 && hi z == 0) = false := by
            have h1 := val_lohi z
            rw [Bool.and_eq_false_iff]
            by_cases h2 : lo z = 1
            · right; rw [beq_eq_false_iff_ne]; intro h3; rw [h2, h3] at h1; apply hz1; rw [← h1]; rfl
            · left; simpa using h2
          clear hz0 hz1
          replace hv := Lib.hid hv
          refine wp_region_flow0 (by kernel_rfl) (by kernel_rfl) ?_
          intro ι _ φ hφ
          obtain ⟨q0, q1⟩ := hφ.two kq
          repeat (go_big_quiet_step ((go_at_call 68; exact flow_call hφ (hone.out _))))
          refine wpQuiet_nil ?_
          intro w6 hv
          replace hb := below_next hb hb.size hv
          replace k0 := keeps hv k0
          clear hv q0 q1 kq hφ
          go_wp2
          go_ret
          exact ⟨by rw [hv.out]; rfl, hb⟩
    · obtain rfl : N = j := by omega
      rw [List.take_of_length_le (by rw [hl.out]; exact Nat.le_refl _)] at hall
      have j1 : ¬ (N : Int) < (N : Int) := by omega
      obtain ⟨c0, c1, c2, c3, c4, c5⟩ := blk6 k0
      have hend2 := Lib.hid (hend.out hall.out)
      have ho := hol.out hall.out
      have hs := hnl.out hall.out
      have hsm2 := fun c w hA => hsm.out c w hA
      have hnum2 := fun A w hA => hnum.out A w hA
      rw [hsb.out hall.out] at hsm2
      rw [hnb.out hall.out, lo_nat (by omega), hi_nat (by omega)] at hnum2
      obtain ⟨p, o, rfl, -, -⟩ := hA.out 0 (by rw [hl.out]; omega)
      generalize hn : ones (xs.take L) = n at *
      generalize hS : said (xs.drop L) = S at *
      have had2 := fun w => (hadd.out (n : Int) (O : Int) (by omega) (by omega) (by omega) (by omega)).2 w
      have hsum : add f (n : Int) (O : Int) = ((n + O : Nat) : Int) := by
        have hM := M_big f
        unfold add
        rw [redu_nat (by omega), redu_nat (by omega), Int.emod_eq_of_lt (by omega) (by omega)]
        omega
      rw [hsum, lo_nat (by omega : n + O < 18446744073709551616), hi_nat (by omega : n + O < 18446744073709551616)] at had2
      have hof2 := fun w => hof.out (O : Int) (by omega) (by omega) w
      generalize hT : n + O = T at *
      have hL0 : (0 : Int) ≤ (L : Int) := by omega
      have hL1 : (L : Int) ≤ (N : Int) := by omega
      have hL2 : (L : Int) ≤ (cp : Int) := by omega
      have hcL : ¬ cp = L := by omega
      have hLc : ¬ L = cp := by omega
      have hq1 := Lib.hid (fun w hb => hsm2 cp w (((hA.out.up hb)).take L))
      have hq2 := Lib.hid (fun w hb => hnum2 (some ⟨p, o + L * 2, none⟩) w ((hA.out.up hb).drop L))
      replace had2 := Lib.hid had2
      replace hof2 := Lib.hid hof2
      replace hn := Lib.hid hn
      replace hS := Lib.hid hS
      replace hT := Lib.hid hT
      have hTS : Bool := decide (T = S)
      clear hsm hsb hol hend hnum hnb hnl hsm2 hnum2 ho hs hsum
      have hend3 : Hid (validB (Ci.mk 5 f b (L : Int) (nW : Int) c) xs = ((T : Int) == (S : Int))) := Lib.hid (by
        rw [hend2.out]
        by_cases e : T = S
        · subst e; simp
        · have : ¬ (T : Int) = (S : Int) := by omega
          simp [e, this])
      clear hend2
      go_upto_region 15 with (fail)
      clear c0 c1 c2 c3 c4 c5
      refine wp_region_flow0 (by kernel_rfl) (by kernel_rfl) ?_
      intro ι _ φ hφ
      have q := fun i => blk6 (keeps (hφ.old i) k0)
      have q0 := fun i => (q i).1
      have q1 := fun i => (q i).2.1
      have q2 := fun i => (q i).2.2.1
      have q3 := fun i => (q i).2.2.2.1
      have q4 := fun i => (q i).2.2.2.2.1
      have q5 := fun i => (q i).2.2.2.2.2
      clear q
      have hB := Lib.hid (fun i => below_next hb hb.size (hφ.old i))
      repeat (go_big_quiet_step ((first
        | (go_at_call 75; exact flow_call hφ (hq1.out _ (hB.out _)))
        | (go_at_call 71; exact flow_call hφ (hos.out _))
        | (go_at_call 69; exact flow_call hφ (hof2.out _))
        | (go_at_call 52; exact flow_call hφ (had2.out _))
        | (go_at_call 74; exact flow_call hφ (hq2.out _ (hB.out _))))))
      refine wpQuiet_nil ?_
      intro w6 hv
      replace hb := below_next hb hb.size hv
      clear hv q0 q1 q2 q3 q4 q5 hφ hB
      go_wp2
      go_ret
      exact ⟨by rw [hend3.out]; simp, hb⟩
end Go.Proofs.Ytgdokfchfgnbbaa
