/-
  The law's walk: how often one polynomial goes into another one.
-/
import Derived.Test.YtbpedpkhhjfhjaaDoorPoR
namespace Go.Proofs.YtbpedpkhhjfhjaaDoor
open Go.RowKit F Flow
set_option linter.unusedVariables false
set_option linter.unusedSimpArgs false
attribute [local go_sem] eql_elem

/-- Both sums of a division's parts are what was divided. -/
theorem div_back {f : Int} {F G T R P : Nat → Int} {n k nT nR L : Nat} (hF : ∀ t, 0 ≤ F t ∧ F t < M f) (hP : ∀ t, 0 ≤ P t ∧ P t < M f) (hD : DivF f F (tl F n) G (tl G k) T nT R nR) (hm : ∀ i, Eqm (M f) (ext P L i) (ml (lst T nT) (ext G (tl G k)) i)) :
    tl (av f P R L nR) (max L nR) = tl F n ∧ lst (av f P R L nR) (tl (av f P R L nR) (max L nR)) = lst F (tl F n) := by
  refine tl_same (fun i => ?_)
  have e : ext (av f P R L nR) (max L nR) i = add f (ext P L i) (ext R nR i) := by
    by_cases c : i < max L nR
    · rw [ext_at _ c]; rfl
    · rw [ext_far _ (by omega), ext_far _ (by omega), ext_far _ (by omega)]
      exact ((add_zero_in (f := f) (x := 0) ⟨Int.le_refl _, M_pos f⟩).1).symm
  rw [e]
  refine in_eq (add_bound f _ _) (ext_in hF n i) ?_
  refine (add_eqm f _ _ (ext_in hP L i) (ext_in hD.r nR i)).trans' ?_
  refine ((hm i).add Eqm.rfl').trans' ?_
  refine (hD.whole i).symm'.trans' ?_
  rw [ext_tl]
  rfl
set_option maxRecDepth 20000 in
set_option maxHeartbeats 4000000 in
theorem polyDivides_f (n f : Int) (hF : ∀ w, Calls Tryd.prog 11 #[.int .u8 n] w fun e w' => e = .returned (.int .u8 f) ∧ Below w.heap.size w w') (ft : Ft f) (hR : ∀ m, m ≤ 10 → RootOf f m (rt f m)) (f0 : 0 ≤ f ∧ f ≤ 2) (n0 : 0 ≤ n) (n1 : n ≤ 255)
    (A B : Option Addr) (ls ms : List Int) (N c N2 c2 : Nat) (hl : ls.length = N) (hm : N ≤ maxLen) (hls : ElemsOK ls) (hl2 : ms.length = N2) (hm2 : N2 ≤ maxLen) (hms : ElemsOK ms) (w : World) (hT : Tabs w) (hA : ElemsAt w A ls) (hB : ElemsAt w B ms) :
    Calls Tryd.prog 8 #[.int .u8 n, .slice A N c, .slice B N2 c2] w fun e w' => e = .returned (.bool true) ∧ Below w.heap.size w w' := by
  have hw8 : IntKind.i64.wrap f = f := IntWalk.i64_in _ (by omega)
  have hs1 := Lib.hid (fun w hA => some_any f ls A N c 16 hl hm hls (by omega) w hA)
  have hs2 := Lib.hid (fun w hA => some_any f ms B N2 c2 12 hl2 hm2 hms (by omega) w hA)
  unfold SOut at hs1 hs2
  have hp0 := rl_in f ls
  have hq0 := rl_in f ms
  have hn16 : min N 16 ≤ 16 := by omega
  have hk12 : min N2 12 ≤ 12 := by omega
  generalize rl f ls = F at *
  generalize rl f ms = G at *
  generalize min N 16 = n1' at *
  generalize min N2 12 = k1 at *
  have hrt := Lib.hid (fun A c hc => rtrim_fix G k1 A c (lim_f (f := f) hq0) (by omega) hc)
  have hnone : NoField (3 + n % 250) := ⟨by rw [beq_eq_false_iff_ne]; omega, by rw [beq_eq_false_iff_ne]; omega⟩
  have hdn := Lib.hid (fun l m w => pdiv_none (3 + n % 250) l m hnone w)
  clear hnone
  obtain ⟨n9, hn9⟩ : ∃ n9, n % 250 = n9 := ⟨_, rfl⟩
  have hn90 : 0 ≤ n9 ∧ n9 < 250 := by omega
  rw [hn9] at hdn
  replace hF := Lib.hid hF
  by_cases z : tl G k1 = 0
  · have hdz := Lib.hid (fun A B c d w hA hB => pdiv_zero ft F G n1' k1 A B c d (lim_f (f := f) hp0) (lim_f (f := f) hq0) (by omega) (by omega) (by rw [rd_same hq0]; exact z) w hA hB)
    rw [z] at hrt
    clear hl hm hls hl2 hm2 hms hp0 hq0 z hdn
    go_enter Tryd.func8, Tryd.ntmps8
    go_wp2_with fail
    refine call_then (pawake _ hT) ?_
    intro w1 hb
    go_wp2_with fail
    refine call_then (hF.out _) ?_
    intro w2 hb2
    replace hb := below_next hb hb.size hb2
    clear hb2
    go_wp2_with fail
    refine call_then (hF.out _) ?_
    intro w2 hb2
    replace hb := below_next hb hb.size hb2
    clear hb2
    go_wp2_with fail
    refine (hs1.out _ (hA.up hb)).mono ?_
    rintro e w2 ⟨Ap, cp, hcp, rfl, hb2, hp, -⟩
    replace hb := below_next hb hb.size hb2
    clear hb2
    go_wp2_with fail
    refine (hs2.out _ (hB.up hb)).mono ?_
    rintro e w2 ⟨Aq, cq, hcq, rfl, hb2, hq, -⟩
    replace hb := below_next hb hb.size hb2
    replace hp := hp.up hb2
    clear hb2 hA hB hs1 hs2
    obtain ⟨Ar, hr1, hr2⟩ := hrt.out Aq cq hcq
    go_wp2_with fail
    refine call_then (hdz.out _ _ _ _ _ hp hq) ?_
    intro w2 hb2
    replace hb := below_next hb hb.size hb2
    replace hq := hq.up hb2
    clear hb2
    go_wp2_with fail
    refine call_then (hr1 _ hq) ?_
    intro w2 hb2
    replace hb := below_next hb hb.size hb2
    clear hb2
    clear hq hp hr1 hr2 hrt hdz
    go_wp2
    go_ret
    exact ⟨rfl, hb⟩
  · have hda := Lib.hid (fun A B c d w hA hB => pdiv_any ft F G n1' k1 A B c d (lim_f (f := f) hp0) (lim_f (f := f) hq0) (by omega) (by omega) (by rw [rd_same hq0]; omega) w hA hB)
    rw [rd_same hp0, rd_same hq0] at hda
    unfold DvOut at hda
    have hrp := Lib.hid (fun A c hc => rtrim_fix F n1' A c (lim_f (f := f) hp0) (by omega) hc)
    have hkl := tl_le G k1
    have hnl := tl_le F n1'
    have hsame : Hid (∀ (F : Nat → Int) (n : Nat), n ≤ 5000 → ∀ A B c d w, ElemsAt w A (lst F n) → ElemsAt w B (lst F n) → Calls Tryd.prog 16 #[.slice A n c, .slice B n d] w fun e w' => e = .returned (.bool true) ∧ Below w.heap.size w w') := Lib.hid (fun F n hn A B c d w hA hB => by
      have h := rsame_eq (lst F n) A B c d (by rw [lst_length]; exact hn) w hA hB
      rw [lst_length] at h
      exact h)
    have y0 : ((tl G k1 : Nat) : Int) ≠ 0 := by omega
    have y1 : (((tl G k1 : Nat) : Int) == 0) = false := by rw [beq_eq_false_iff_ne]; exact y0
    have z1 : 0 < tl G k1 := by omega
    clear y0 z
    clear hl hm hls hl2 hm2 hms
    go_enter Tryd.func8, Tryd.ntmps8
    go_wp2_with fail
    refine call_then (pawake _ hT) ?_
    intro w1 hb
    go_wp2_with fail
    refine call_then (hF.out _) ?_
    intro w2 hb2
    replace hb := below_next hb hb.size hb2
    clear hb2
    go_wp2_with fail
    refine call_then (hF.out _) ?_
    intro w2 hb2
    replace hb := below_next hb hb.size hb2
    clear hb2
    go_wp2_with fail
    refine (hs1.out _ (hA.up hb)).mono ?_
    rintro e w2 ⟨Ap, cp, hcp, rfl, hb2, hp, -⟩
    replace hb := below_next hb hb.size hb2
    clear hb2
    go_wp2_with fail
    refine (hs2.out _ (hB.up hb)).mono ?_
    rintro e w2 ⟨Aq, cq, hcq, rfl, hb2, hq, -⟩
    replace hb := below_next hb hb.size hb2
    replace hp := hp.up hb2
    clear hb2 hA hB hs1 hs2
    obtain ⟨Ar, hr1, hr2⟩ := hrt.out Aq cq hcq
    obtain ⟨As, hv1, hv2⟩ := hrp.out Ap cp hcp
    clear hrt hrp
    go_wp2_with fail
    refine (hda.out _ _ _ _ _ hp hq).mono ?_
    rintro e w3 ⟨A1, A2, T, R, nT, nR, rfl, hb2, hLt, hLr, hD⟩
    have et := hLt.elems
    have er := hLr.elems
    replace hb := below_next hb hb.size hb2
    replace hp := hp.up hb2
    replace hq := hq.up hb2
    clear hb2 hLt hLr hda
    have hlow := hD.low
    have htl := hD.tLen
    obtain ⟨P, L, hP, hL, -, hPm, -, hpr⟩ := products ft hR T G nT (tl G k1) hD.t hq0 (by omega) (by omega) (by omega)
    obtain ⟨eb1, eb2⟩ := div_back hp0 hP hD hPm
    have hsum := Lib.hid (fun A B c d w hA hB => rsum_any f P R L nR hP hD.r (by omega) (by omega) A B c d w hA hB)
    unfold ROut at hsum hpr
    rw [eb2, eb1] at hsum
    obtain ⟨At, ht1, ht2⟩ := rtrim_fix T nT A1 nT (lim_f (f := f) hD.t) (by omega) (Nat.le_refl _)
    obtain ⟨Au, hu1, hu2⟩ := rtrim_fix R nR A2 nR (lim_f (f := f) hD.r) (by omega) (Nat.le_refl _)
    rw [tl_full hD.tTop] at ht1 ht2
    rw [tl_full hD.rTop] at hu1 hu2
    have hsT := Lib.hid (hsame.out T nT (by omega))
    have hsR := Lib.hid (hsame.out R nR (by omega))
    have hsF := Lib.hid (hsame.out F (tl F n1') (by omega))
    replace hpr := Lib.hid hpr
    replace ht1 := Lib.hid ht1
    replace ht2 := Lib.hid ht2
    replace hu1 := Lib.hid hu1
    replace hu2 := Lib.hid hu2
    replace hv1 := Lib.hid hv1
    replace hv2 := Lib.hid hv2
    replace hr1 := Lib.hid hr1
    replace hr2 := Lib.hid hr2
    clear eb1 eb2 hP hPm hL hD hsame hR ft hp0 hq0
    generalize tl G k1 = K at *
    generalize tl F n1' = H at *
    have y2 : (nR : Int) < (K : Int) := by omega
    go_wp2_with fail
    refine call_then (hr1.out _ hq) ?_
    intro w4 hb2
    have eu := (hr2.out _ hq).up hb2
    replace hb := below_next hb hb.size hb2
    replace hp := hp.up hb2
    replace et := et.up hb2
    replace er := er.up hb2
    clear hb2 hq hr1 hr2
    go_wp2_with fail
    refine (hpr.out _ _ _ _ _ (Nat.le_refl _) (by omega) et eu).mono ?_
    rintro e w5 ⟨A5, c5, h5, rfl, hb2, e5⟩
    replace hb := below_next hb hb.size hb2
    replace hp := hp.up hb2
    replace et := et.up hb2
    replace er := er.up hb2
    clear hb2 eu hpr h5
    go_wp2_with fail
    refine (hsum.out _ _ _ _ _ e5 er).mono ?_
    rintro e w6 ⟨A6, c6, h6, rfl, hb2, e6⟩
    replace hb := below_next hb hb.size hb2
    replace hp := hp.up hb2
    replace et := et.up hb2
    replace er := er.up hb2
    clear hb2 e5 hsum h6
    go_wp2_with fail
    refine call_then (hdn.out _ _ _) ?_
    intro w7 hb2
    replace hb := below_next hb hb.size hb2
    replace hp := hp.up hb2
    replace et := et.up hb2
    replace er := er.up hb2
    replace e6 := e6.up hb2
    clear hb2 hdn
    go_wp2_with fail
    refine call_then (ht1.out _ et) ?_
    intro w8 hb2
    have et' := (ht2.out _ et).up hb2
    replace hb := below_next hb hb.size hb2
    replace hp := hp.up hb2
    replace et := et.up hb2
    replace er := er.up hb2
    replace e6 := e6.up hb2
    clear hb2 ht1 ht2
    go_wp2_with fail
    refine call_then (hsT.out _ _ _ _ _ et' et) ?_
    intro w9 hb2
    replace hb := below_next hb hb.size hb2
    replace hp := hp.up hb2
    replace er := er.up hb2
    replace e6 := e6.up hb2
    clear hb2 et et' hsT
    go_wp2_with fail
    refine call_then (hu1.out _ er) ?_
    intro w8 hb2
    have er' := (hu2.out _ er).up hb2
    replace hb := below_next hb hb.size hb2
    replace hp := hp.up hb2
    replace er := er.up hb2
    replace e6 := e6.up hb2
    clear hb2 hu1 hu2
    go_wp2_with fail
    refine call_then (hsR.out _ _ _ _ _ er' er) ?_
    intro w9 hb2
    replace hb := below_next hb hb.size hb2
    replace hp := hp.up hb2
    replace e6 := e6.up hb2
    clear hb2 er er' hsR
    go_wp2_with fail
    refine call_then (hv1.out _ hp) ?_
    intro w8 hb2
    have ep' := (hv2.out _ hp).up hb2
    replace hb := below_next hb hb.size hb2
    replace e6 := e6.up hb2
    clear hb2 hv1 hv2 hp
    go_wp2_with fail
    refine call_then (hsF.out _ _ _ _ _ e6 ep') ?_
    intro w2 hb2
    replace hb := below_next hb hb.size hb2
    clear hb2
    clear e6 ep' hsF
    go_wp2
    go_ret
    exact ⟨rfl, hb⟩
end Go.Proofs.YtbpedpkhhjfhjaaDoor
