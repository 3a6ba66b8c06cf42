/-
  CircuitValid's walk.
-/
import Derived.Test.YtgdokfchfgnbbaaDN
import Derived.Test.YtgdokfchfgnbbaaRSame
import Derived.Test.YtgdokfchfgnbbaaBA
import Derived.Test.YtgdokfchfgnbbaaBX
namespace Go.Proofs.Ytgdokfchfgnbbaa
open Go.RowKit Flow F
set_option linter.unusedVariables false
set_option linter.unusedSimpArgs false
attribute [local go_sem] eql_elem

theorem blk6v {w : World} {p : Nat} {y : Ci} {t : TypeId} {z : Nat × Nat} (h : w.heap[p]? = some (.cells #[.int .u8 y.k, .int .u8 y.f, .int .i64 y.b, .int .i64 y.l, .int .i64 y.w, .int .i64 y.c] t z)) :
    w.cell? ⟨p, 0, none⟩ = some (.int .u8 y.k) ∧ w.cell? ⟨p, 1, none⟩ = some (.int .u8 y.f) ∧ w.cell? ⟨p, 2, none⟩ = some (.int .i64 y.b) ∧ w.cell? ⟨p, 3, none⟩ = some (.int .i64 y.l) ∧ w.cell? ⟨p, 4, none⟩ = some (.int .i64 y.w) ∧ w.cell? ⟨p, 5, none⟩ = some (.int .i64 y.c) := blk6 h
-- The last region: what is said of the vector; what of it is summed; what is said of the other.
set_option maxRecDepth 20000 in
set_option maxHeartbeats 8000000 in
theorem cvalid_walk (K F B L W C : Int) (ls rs : List Int) (A : Option Addr) (N cp : Nat) (A2 : Option Addr) (N2 cp2 : Nat) (sm : Bool) (hl : ls.length = N) (hlo : ElemsOK ls) (hl2 : rs.length = N2) (hro : ElemsOK rs) (hc2 : N2 ≤ cp2) (hNm : N ≤ maxLen) (hNm2 : N2 ≤ maxLen)
    (k0 : 0 ≤ K) (k1 : K ≤ 255) (f0 : 0 ≤ F) (f1 : F ≤ 255) (b0 : 0 ≤ B) (b1 : B ≤ 255) (l0 : 0 ≤ L) (l1 : L ≤ 255) (w0 : 0 ≤ W) (w1 : W ≤ 255) (c0 : 0 ≤ C) (c1 : C ≤ 255) (w : World) (hA : ElemsAt w A ls) (hA2 : ElemsAt w A2 rs) :
    Calls Try.prog 5 #[svl K F B L W C, .slice A N cp, .slice A2 N2 cp2, .bool sm] w fun e w' => e = .returned (.bool true) ∧ Below w.heap.size w w' := by
  have hAw := Lib.hid (fun w => awake_ok w)
  have hS := Lib.hid (fun w => small_any K F B L W C k0 k1 f0 f1 b0 b1 l0 l1 w0 w1 c0 c1 w)
  obtain ⟨X, hX⟩ : ∃ X, smallC K F B L W C = X := ⟨_, rfl⟩
  have hXg : X.Good := by rw [← hX]; exact small_good _ _ _ _ _ _
  rw [hX] at hS
  clear hX k0 k1 f0 f1 b0 b1 l0 l1 w0 w1 c0 c1
  have hVc := fun hn w hA => vec_any X hXg ls A N cp sm hl hn hlo w hA
  have hT1 := fun (vs : List Int) g (hvl : vs.length = X.inN) (hvi : InF X.f vs) w (hA : ElemsAt w (some ⟨g, 0, none⟩) vs) => trunc_ok X hXg vs (some ⟨g, 0, none⟩) X.inN X.inN hvl rfl (Nat.le_refl _) hvi.ok w hA
  have hT2 := fun (h : N2 = X.inN) w => trunc_ok X hXg rs A2 N2 cp2 hl2 h hc2 hro w
  have hT3 := fun (h : N2 ≠ X.inN) w => trunc_size X A2 N2 cp2 hXg h w
  have hV9 := fun (h : N2 ≠ X.inN) w => valid_size X A2 N2 cp2 (fun _ => h) w
  have hV1 := fun (vs : List Int) g (hvl : vs.length = X.inN) (hvi : InF X.f vs) w (hA : ElemsAt w (some ⟨g, 0, none⟩) vs) => valid_ok X hXg vs (some ⟨g, 0, none⟩) X.inN X.inN hvl rfl (Nat.le_refl _) hvi w hA
  have hV2 := fun (vs : List Int) g (hvl : vs.length = X.inN) (hvi : InF X.f vs) w (hA : ElemsAt w (some ⟨g, 0, none⟩) vs) => rvalid_ok X hXg vs (some ⟨g, 0, none⟩) X.inN X.inN hvl rfl hvi w hA
  have hTq := fun (vs : List Int) g (hvl : vs.length = X.inN) (hvi : InF X.f vs) w (hA : ElemsAt w (some ⟨g, 0, none⟩) vs) => rtrunc_ok X hXg vs (some ⟨g, 0, none⟩) X.inN X.inN hvl rfl (Nat.le_refl _) hvi w hA
  have hIn := fun w => inup_any X hXg w
  have hf := hXg.f
  have hRf := Lib.hid (fun w => ref_any X (by have := hXg.fits.k1; omega) (by have := hXg.fits.k5; omega) (by omega) (by omega) w)
  have ho64 := out_le hXg
  unfold svl cvl rvl at *
  unfold maxLen at hNm hNm2
  replace hT1 := Lib.hid hT1
  replace hT2 := Lib.hid hT2
  replace hT3 := Lib.hid hT3
  replace hV9 := Lib.hid hV9
  replace hV1 := Lib.hid hV1
  replace hV2 := Lib.hid hV2
  replace hTq := Lib.hid hTq
  replace hIn := Lib.hid hIn
  replace hVc := Lib.hid hVc
  replace hXg := Lib.hid hXg
  replace hl := Lib.hid hl
  replace hlo := Lib.hid hlo
  replace hl2 := Lib.hid hl2
  replace hro := Lib.hid hro
  replace hA := Lib.hid hA
  replace hA2 := Lib.hid hA2
  obtain ⟨I, hI⟩ : ∃ I, X.inN = I := ⟨_, rfl⟩
  rw [hI] at hT1 hT2 hT3 hV9 hV1 hV2 hTq hIn hVc
  clear hI
  go_enter Try.func5, Try.ntmps5
  go_wp2_with fail
  refine name_calls (fun w1 => Below w.heap.size w w1 ∧ w1.heap[w.heap.size]? = some (.cells #[.int .u8 K, .int .u8 F, .int .u8 B, .int .u8 L, .int .u8 W, .int .u8 C] 27 (0, 0))) ⟨(Below.refl _ _).alloc (Nat.le_refl _) _, alloc_at rfl⟩ ?_
  rintro w1 ⟨hb, ks⟩
  refine call_then (hAw.out _) ?_
  intro w2 hv
  replace hb := below_next hb hb.size hv
  replace ks := keeps hv ks
  clear hv
  by_cases h1 : 60 < N
  · have n1 : (60 : Int) < (N : Int) := by omega
    go_wp2
    go_ret
    exact ⟨rfl, hb⟩
  have n1 : ¬ (60 : Int) < (N : Int) := by omega
  by_cases h2 : 60 < N2
  · have n2 : (60 : Int) < (N2 : Int) := by omega
    go_wp2
    go_ret
    exact ⟨rfl, hb⟩
  have n2 : ¬ (60 : Int) < (N2 : Int) := by omega
  have hN60 : N ≤ 60 := by omega
  obtain ⟨s0, s1, s2, s3, s4, s5⟩ := blk6 ks
  go_wp2_with fail
  refine call_then (hS.out _) ?_
  intro w3 hv
  replace hb := below_next hb hb.size hv
  replace ks := keeps hv ks
  clear s0 s1 s2 s3 s4 s5 hv h1 h2
  have q1 := lt_of_get ks
  have q2 := Nat.ne_of_lt q1
  go_upto_region 6 with (fail)
  refine name_wp (fun w4 => Below w.heap.size w w4 ∧ w4.heap[w.heap.size]? = some (.cells #[.int .u8 K, .int .u8 F, .int .u8 B, .int .u8 L, .int .u8 W, .int .u8 C] 27 (0, 0)) ∧ w4.heap[w3.heap.size]? = some (.cells #[.int .u8 X.k, .int .u8 X.f, .int .i64 X.b, .int .i64 X.l, .int .i64 X.w, .int .i64 X.c] 25 (0, 0))) ⟨hb.alloc hb.size _, alloc_keeps ks, alloc_at rfl⟩ ?_
  clear hb ks q1 q2
  generalize w3.heap.size = px at *
  rintro w4 ⟨hb, ks, kz⟩
  clear w1 w2 w3
  obtain ⟨d0, d1, d2, d3, d4, d5⟩ := blk6v kz
  go_wp2_with fail
  refine (hVc.out hN60 _ (hA.out.up hb)).mono ?_
  rintro e v3 ⟨g, vs, rfl, hv, hgl, hg, hvl, hvi⟩
  replace hb := below_next hb hb.size hv
  replace ks := keeps hv ks
  replace kz := keeps hv kz
  clear hv hVc hA hgl d0 d1 d2 d3 d4 d5
  have hT1' := Lib.hid (hT1.out vs g hvl hvi)
  have hVa := Lib.hid (hV1.out vs g hvl hvi)
  have hVr := Lib.hid (hV2.out vs g hvl hvi)
  have hTr := Lib.hid (hTq.out vs g hvl hvi)
  clear hT1 hV1 hV2 hTq
  obtain ⟨S, hSe⟩ : ∃ S, truncL X vs = S := ⟨_, rfl⟩
  obtain ⟨O, hO⟩ : ∃ O, S.length = O := ⟨_, rfl⟩
  have hO5 : O ≤ 5000 := by rw [← hO, ← hSe, truncL_length]; omega
  rw [hSe] at hT1' hTr
  have hSm0 := fun gs B c w hA hB => rsame_eq S (some ⟨gs, 0, none⟩) B S.length c (by omega) w hA hB
  rw [hO] at hSm0
  replace hSm0 := Lib.hid hSm0
  obtain ⟨Vb, hVb⟩ : ∃ Vb, validB X vs = Vb := ⟨_, rfl⟩
  rw [hVb] at hVa hVr
  have hbb : (Vb == Vb) = true := by simp
  clear hVb hSe hvl hvi hl hlo hf ho64 hl2 hro
  obtain ⟨d0, d1, d2, d3, d4, d5⟩ := blk6v kz
  go_wp2_with fail
  refine (hT1'.out _ hg.elems).mono ?_
  rintro e v4 ⟨gs, rfl, hv, hgl, hg2⟩
  rw [hO]
  replace hb := below_next hb hb.size hv
  replace ks := keeps hv ks
  replace kz := keeps hv kz
  replace hg := hg.up hv
  have hSm := Lib.hid (hSm0.out gs)
  clear hv hT1' hgl hSm0 d0 d1 d2 d3 d4 d5
  obtain ⟨d0, d1, d2, d3, d4, d5⟩ := blk6v kz
  by_cases hN2 : N2 = I
  · have n3 : ((N2 : Int) != (I : Int)) = false := by simp; omega
    have hT := Lib.hid (hT2.out hN2)
    clear hT2 hT3 hN2
    go_wp2_with fail
    refine (hT.out _ (hA2.out.up hb)).mono ?_
    rintro e v5 ⟨gr, rfl, hv, hgl, -⟩
    replace hb := below_next hb hb.size hv
    replace ks := keeps hv ks
    replace kz := keeps hv kz
    replace hg := hg.up hv
    replace hg2 := hg2.up hv
    clear hv hT hgl hA2 d0 d1 d2 d3 d4 d5
    obtain ⟨d0, d1, d2, d3, d4, d5⟩ := blk6v kz
    go_wp2_with fail
    refine call_then (hIn.out _) ?_
    intro v6 hv
    replace hb := below_next hb hb.size hv
    replace ks := keeps hv ks
    replace kz := keeps hv kz
    replace hg := hg.up hv
    replace hg2 := hg2.up hv
    clear hv hIn d0 d1 d2 d3 d4 d5
    obtain ⟨d0, d1, d2, d3, d4, d5⟩ := blk6v kz
    go_upto_region 12 with (fail)
    clear d0 d1 d2 d3 d4 d5
    refine seg_start 36 (by kernel_rfl) (by decide) ?_
    intro v0 hv
    replace hb := below_next hb hb.size hv
    replace ks := keeps hv ks
    replace kz := keeps hv kz
    replace hg := hg.up hv
    replace hg2 := hg2.up hv
    clear hv
    refine seg_batch 19 [0, 1, 2, 3, 4, 5, 6, 7, 8, 9, 10, 11, 12, 13, 14, 15, 16] (by kernel_rfl) rfl (by kernel_rfl) (by kernel_rfl) (by kernel_rfl) ?_
    apply Exists.intro
    refine ⟨fun ι _ φ hφ => ?_, fun v1 hv => ?_⟩
    · have dd := fun i => blk6v (keeps (hφ.old i) kz)
      have d0 := fun i => (dd i).1
      have d1 := fun i => (dd i).2.1
      have d2 := fun i => (dd i).2.2.1
      have d3 := fun i => (dd i).2.2.2.1
      have d4 := fun i => (dd i).2.2.2.2.1
      have d5 := fun i => (dd i).2.2.2.2.2
      clear dd
      have hVa' := Lib.hid (fun i => hVa.out (φ i) ((hg.up (hφ.old i)).elems))
      have hVr' := Lib.hid (fun i => hVr.out (φ i) ((hg.up (hφ.old i)).elems))
      repeat (refine pick_step rfl ?_; go_big_quiet_step ((first | (go_at_call 11; exact flow_call hφ (hRf.out _)) | (go_at_call 36; exact flow_call hφ (hVa'.out _)) | (go_at_call 38; exact flow_call hφ (hVr'.out _)))))
      exact pick_end
    replace hb := below_next hb hb.size hv
    replace ks := keeps hv ks
    replace kz := keeps hv kz
    replace hg := hg.up hv
    replace hg2 := hg2.up hv
    clear hv
    refine seg_one 17 _ (by decide) rfl (by kernel_rfl) ?_
    intro v2 K' hv hK
    replace hb := below_next hb hb.size hv
    replace ks := keeps hv ks
    replace kz := keeps hv kz
    replace hg := hg.up hv
    replace hg2 := hg2.up hv
    clear hv
    replace hK := Lib.hid hK
    go_simp
    refine (hTr.out v2 hg.elems).mono ?_
    rintro e v3 ⟨B3, e3, rfl, hv, hB3⟩
    refine hK.out _ _ hv ?_
    clear hK K'
    replace hb := below_next hb hb.size hv
    replace ks := keeps hv ks
    replace kz := keeps hv kz
    replace hg := hg.up hv
    replace hg2 := hg2.up hv
    clear hv
    refine seg_batch 0 [18, 19, 20, 21, 22, 23, 24, 25, 26, 27, 28, 29, 30, 31, 32, 33, 34, 35] (by kernel_rfl) rfl (by kernel_rfl) (by kernel_rfl) (by kernel_rfl) ?_
    apply Exists.intro
    refine ⟨fun ι _ φ hφ => ?_, fun v4 hv => ?_⟩
    · have dd := fun i => blk6v (keeps (hφ.old i) kz)
      have d0 := fun i => (dd i).1
      have d1 := fun i => (dd i).2.1
      have d2 := fun i => (dd i).2.2.1
      have d3 := fun i => (dd i).2.2.2.1
      have d4 := fun i => (dd i).2.2.2.2.1
      have d5 := fun i => (dd i).2.2.2.2.2
      clear dd
      have hSm' := Lib.hid (fun i => hSm.out B3 e3 (φ i) ((hg2.up (hφ.old i)).elems) (hB3.up (hφ.old i)))
      repeat (refine pick_step rfl ?_; go_big_quiet_step ((first | (go_at_call 39; exact flow_call hφ (hSm'.out _)) | (go_at_call 36; exact flow_call hφ (hV9.out _)))))
      exact pick_end
    replace hb := below_next hb hb.size hv
    clear hv
    refine seg_done rfl (by kernel_rfl) ?_
    intro v5 hv
    replace hb := below_next hb hb.size hv
    clear hv
    go_wp2
    go_ret
    exact ⟨rfl, hb⟩
  · have n3 : ((N2 : Int) != (I : Int)) = true := by simp; omega
    have hT := Lib.hid (hT3.out hN2)
    replace hV9 := Lib.hid (hV9.out hN2)
    clear hT2 hT3 hN2
    go_wp2_with fail
    refine call_then (hT.out _) ?_
    intro v5 hv
    replace hb := below_next hb hb.size hv
    replace ks := keeps hv ks
    replace kz := keeps hv kz
    replace hg := hg.up hv
    replace hg2 := hg2.up hv
    clear hv hT hA2 d0 d1 d2 d3 d4 d5
    obtain ⟨d0, d1, d2, d3, d4, d5⟩ := blk6v kz
    go_wp2_with fail
    refine call_then (hIn.out _) ?_
    intro v6 hv
    replace hb := below_next hb hb.size hv
    replace ks := keeps hv ks
    replace kz := keeps hv kz
    replace hg := hg.up hv
    replace hg2 := hg2.up hv
    clear hv hIn d0 d1 d2 d3 d4 d5
    obtain ⟨d0, d1, d2, d3, d4, d5⟩ := blk6v kz
    go_upto_region 12 with (fail)
    clear d0 d1 d2 d3 d4 d5
    refine seg_start 36 (by kernel_rfl) (by decide) ?_
    intro v0 hv
    replace hb := below_next hb hb.size hv
    replace ks := keeps hv ks
    replace kz := keeps hv kz
    replace hg := hg.up hv
    replace hg2 := hg2.up hv
    clear hv
    refine seg_batch 19 [0, 1, 2, 3, 4, 5, 6, 7, 8, 9, 10, 11, 12, 13, 14, 15, 16] (by kernel_rfl) rfl (by kernel_rfl) (by kernel_rfl) (by kernel_rfl) ?_
    apply Exists.intro
    refine ⟨fun ι _ φ hφ => ?_, fun v1 hv => ?_⟩
    · have dd := fun i => blk6v (keeps (hφ.old i) kz)
      have d0 := fun i => (dd i).1
      have d1 := fun i => (dd i).2.1
      have d2 := fun i => (dd i).2.2.1
      have d3 := fun i => (dd i).2.2.2.1
      have d4 := fun i => (dd i).2.2.2.2.1
      have d5 := fun i => (dd i).2.2.2.2.2
      clear dd
      have hVa' := Lib.hid (fun i => hVa.out (φ i) ((hg.up (hφ.old i)).elems))
      have hVr' := Lib.hid (fun i => hVr.out (φ i) ((hg.up (hφ.old i)).elems))
      repeat (refine pick_step rfl ?_; go_big_quiet_step ((first | (go_at_call 11; exact flow_call hφ (hRf.out _)) | (go_at_call 36; exact flow_call hφ (hVa'.out _)) | (go_at_call 38; exact flow_call hφ (hVr'.out _)))))
      exact pick_end
    replace hb := below_next hb hb.size hv
    replace ks := keeps hv ks
    replace kz := keeps hv kz
    replace hg := hg.up hv
    replace hg2 := hg2.up hv
    clear hv
    refine seg_one 17 _ (by decide) rfl (by kernel_rfl) ?_
    intro v2 K' hv hK
    replace hb := below_next hb hb.size hv
    replace ks := keeps hv ks
    replace kz := keeps hv kz
    replace hg := hg.up hv
    replace hg2 := hg2.up hv
    clear hv
    replace hK := Lib.hid hK
    go_simp
    refine (hTr.out v2 hg.elems).mono ?_
    rintro e v3 ⟨B3, e3, rfl, hv, hB3⟩
    refine hK.out _ _ hv ?_
    clear hK K'
    replace hb := below_next hb hb.size hv
    replace ks := keeps hv ks
    replace kz := keeps hv kz
    replace hg := hg.up hv
    replace hg2 := hg2.up hv
    clear hv
    refine seg_batch 0 [18, 19, 20, 21, 22, 23, 24, 25, 26, 27, 28, 29, 30, 31, 32, 33, 34, 35] (by kernel_rfl) rfl (by kernel_rfl) (by kernel_rfl) (by kernel_rfl) ?_
    apply Exists.intro
    refine ⟨fun ι _ φ hφ => ?_, fun v4 hv => ?_⟩
    · have dd := fun i => blk6v (keeps (hφ.old i) kz)
      have d0 := fun i => (dd i).1
      have d1 := fun i => (dd i).2.1
      have d2 := fun i => (dd i).2.2.1
      have d3 := fun i => (dd i).2.2.2.1
      have d4 := fun i => (dd i).2.2.2.2.1
      have d5 := fun i => (dd i).2.2.2.2.2
      clear dd
      have hSm' := Lib.hid (fun i => hSm.out B3 e3 (φ i) ((hg2.up (hφ.old i)).elems) (hB3.up (hφ.old i)))
      repeat (refine pick_step rfl ?_; go_big_quiet_step ((first | (go_at_call 39; exact flow_call hφ (hSm'.out _)) | (go_at_call 36; exact flow_call hφ (hV9.out _)))))
      exact pick_end
    replace hb := below_next hb hb.size hv
    clear hv
    refine seg_done rfl (by kernel_rfl) ?_
    intro v5 hv
    replace hb := below_next hb hb.size hv
    clear hv
    go_wp2
    go_ret
    exact ⟨rfl, hb⟩
end Go.Proofs.Ytgdokfchfgnbbaa
