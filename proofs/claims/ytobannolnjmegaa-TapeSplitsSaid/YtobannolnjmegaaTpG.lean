/-
  TapeUnlike: unlike draws belong to unlike ones.
-/
import Derived.Test.YtobannolnjmegaaTpF
namespace Go.Proofs.Ytobannolnjmegaa
open Go.RowKit F Flow Go.WideShapes Go.ChangeShapes
set_option linter.unusedVariables false
set_option linter.unusedSimpArgs false
attribute [local go_sem] eql_elem

theorem zip_cancel (f : Int) {xs ys zs : List Int} (h1 : xs.length = ys.length) (h2 : xs.length = zs.length) (hy : InF f ys) (hz : InF f zs) (h : List.zipWith (sub f) xs ys = List.zipWith (sub f) xs zs) : ys = zs := by
  rw [← zip_back f xs ys h1 hy, h, zip_back f xs zs h2 hz]
set_option maxRecDepth 100000 in
set_option maxHeartbeats 8000000 in
theorem tapeUnlike_small (n f : Int) (f0 : 0 ≤ f) (f2 : f ≤ 2) (ls ms ks ds : List Int) (A B C D : Option Addr) (L Lm Lk Ld c d e c4 : Nat) (hL : ls.length = L) (hLm : ms.length = Lm) (hLk : ks.length = Lk) (hLd : ds.length = Ld)
    (h1 : L ≤ 20) (h2 : Lm ≤ 20) (h3 : Lk ≤ 20) (h4 : Ld ≤ 20) (hl : ElemsOK ls) (hm : ElemsOK ms) (hk : ElemsOK ks) (hd : ElemsOK ds)
    (hf : ∀ w, Calls Try.prog 7 #[.int .u8 n] w fun e w' => e = .returned (.int .u8 f) ∧ Below w.heap.size w w') (hI : InYes f)
    (hval : ∀ w, Calls Try.prog 15 #[.int .u8 f] w fun e w' => e = .returned (.bool true) ∧ Below w.heap.size w w') (hop : OpBy 25 f (sub f)) (w : World) (hA : ElemsAt w A ls) (hB : ElemsAt w B ms) (hC : ElemsAt w C ks) (hD : ElemsAt w D ds) :
    Calls Try.prog 5 #[.int .u8 n, .slice A L c, .slice B Lm d, .slice C Lk e, .slice D Ld c4] w fun e w' => e = .returned (.bool true) ∧ Below w.heap.size w w' := by
  have L0 : (L : Int) ≤ 20 := by omega
  have L1 : (Lm : Int) ≤ 20 := by omega
  have L2 : (Lk : Int) ≤ 20 := by omega
  have L3 : (Ld : Int) ≤ 20 := by omega
  have hw8 : IntKind.i64.wrap f = f := IntWalk.i64_in _ (by omega)
  have hs1 := Lib.hid (fun w hA => some_1 f ls A L c L hL h1 h1 hl w hA)
  have hs2 := Lib.hid (fun w hB => some_1 f ms B Lm d L hLm h2 h1 hm w hB)
  have hs3 := Lib.hid (fun w hC => some_3 f ks C Lk e L hLk h3 h1 hk w hC)
  have hs4 := Lib.hid (fun w hD => some_2 f ds D Ld c4 L hLd h4 h1 hd w hD)
  replace hf := Lib.hid hf
  replace hA := Lib.hid hA
  replace hB := Lib.hid hB
  replace hC := Lib.hid hC
  replace hD := Lib.hid hD
  replace hI := Lib.hid hI
  replace hval := Lib.hid hval
  replace hop := Lib.hid hop
  clear hL hLm hLk hLd hl hm hk hd
  go_enter Try.func5, Try.ntmps5
  go_wp2_with fail
  refine call_then (tawake _) ?_
  intro w1 hb
  have hR := RowsAt.nil w1
  go_wp2_with fail
  refine call_then (hf.out _) ?_
  intro w2 hw
  replace hb := below_next hb hb.size hw
  replace hR := hR.up hw
  clear hw
  go_wp2_with fail
  refine call_then (hf.out _) ?_
  intro w3 hw
  replace hb := below_next hb hb.size hw
  replace hR := hR.up hw
  clear hw
  go_wp2_with fail
  refine (hs1.out _ (hA.out.up hb)).mono ?_
  rintro e w2 ⟨g1, X, rfl, hw, hr, lX, iX⟩
  replace hb := below_next hb hb.size hw
  replace hR := (hR.up hw).cons hr
  replace lX := Lib.hid lX
  clear hw hr
  go_wp2_with fail
  refine (hs2.out _ (hB.out.up hb)).mono ?_
  rintro e w2 ⟨g2, O, rfl, hw, hr, lO, iO⟩
  replace hb := below_next hb hb.size hw
  replace hR := (hR.up hw).cons hr
  replace lO := Lib.hid lO
  clear hw hr
  go_wp2_with fail
  refine (hs3.out _ (hC.out.up hb)).mono ?_
  rintro e w2 ⟨g3, P, rfl, hw, hr, lP, iP⟩
  replace hb := below_next hb hb.size hw
  replace hR := (hR.up hw).cons hr
  replace lP := Lib.hid lP
  clear hw hr
  go_wp2_with fail
  refine (hs4.out _ (hD.out.up hb)).mono ?_
  rintro e w2 ⟨g4, Q, rfl, hw, hr, lQ, iQ⟩
  replace hb := below_next hb hb.size hw
  replace hR := (hR.up hw).cons hr
  replace lQ := Lib.hid lQ
  clear hw hr
  clear hs1 hs2 hs3 hs4 hA hB hC hD
  have l1 := lX.out.trans lP.out.symm
  have l2 := lX.out.trans lQ.out.symm
  have m1 : (List.zipWith (sub f) X P).length = L := (zip_length l1).trans lX.out
  have m2 : (List.zipWith (sub f) X Q).length = L := (zip_length l2).trans lX.out
  have l3 := lO.out.trans m1.symm
  have l4 := lO.out.trans m2.symm
  have m3 : (List.zipWith (sub f) O (List.zipWith (sub f) X P)).length = L := (zip_length l3).trans lO.out
  have m4 : (List.zipWith (sub f) O (List.zipWith (sub f) X Q)).length = L := (zip_length l4).trans lO.out
  have hne : Hid (P ≠ Q → List.zipWith (sub f) O (List.zipWith (sub f) X P) ≠ List.zipWith (sub f) O (List.zipWith (sub f) X Q)) := fun hpq hz =>
    hpq (zip_cancel f l1 l2 iP iQ (zip_cancel f l3 l4 (InF.zip _ _) (InF.zip _ _) hz))
  have heq : Hid (P = Q → List.zipWith (sub f) O (List.zipWith (sub f) X P) = List.zipWith (sub f) O (List.zipWith (sub f) X Q)) := fun h => by rw [h]
  replace m3 := Lib.hid m3
  replace m4 := Lib.hid m4
  clear l1 l2 l3 l4 m1 m2
  have q1 := retape_ok f X O P (some ⟨g1, 0, none⟩) (some ⟨g2, 0, none⟩) (some ⟨g3, 0, none⟩) L L L L lX.out lP.out lO.out (by omega) iX iP iO hI.out (fun h => by cases h) hval.out hop.out w2 (hR.at_ (by simp)) (hR.at_ (by simp)) (hR.at_ (by simp))
  have q2 := fun w hA hB hC => retape_ok f X O Q (some ⟨g1, 0, none⟩) (some ⟨g2, 0, none⟩) (some ⟨g4, 0, none⟩) L L L L lX.out lQ.out lO.out (by omega) iX iQ iO hI.out (fun h => by cases h) hval.out hop.out w hA hB hC
  unfold Drawn at q1 q2
  generalize List.zipWith (sub f) O (List.zipWith (sub f) X P) = U at *
  generalize List.zipWith (sub f) O (List.zipWith (sub f) X Q) = V at *
  replace q1 := Lib.hid q1
  replace q2 := Lib.hid q2
  go_wp2_with fail
  refine q1.out.mono ?_
  rintro e w3 ⟨g5, rfl, hw, hr⟩
  replace hb := below_next hb hb.size hw
  replace hR := (hR.up hw).cons hr
  clear hw hr q1
  go_wp2_with fail
  refine (q2.out _ (hR.at_ (by simp)) (hR.at_ (by simp)) (hR.at_ (by simp))).mono ?_
  rintro e w4 ⟨g6, rfl, hw, hr⟩
  replace hb := below_next hb hb.size hw
  replace hR := (hR.up hw).cons hr
  clear hw hr q2
  by_cases hpq : P = Q
  · have huv := heq.out hpq
    subst hpq huv
    clear hne heq lQ
    have s1 := Lib.hid (same_yes U (some ⟨g5, 0, none⟩) (some ⟨g6, 0, none⟩) L L L m3.out (by omega) w4 (hR.at_ (by simp)) (hR.at_ (by simp)))
    go_wp2_with fail
    refine call_then s1.out ?_
    intro w9 hw
    replace hb := below_next hb hb.size hw
    replace hR := hR.up hw
    clear hw s1
    have s2 := Lib.hid (same_yes P (some ⟨g3, 0, none⟩) (some ⟨g4, 0, none⟩) L L L lP.out (by omega) w9 (hR.at_ (by simp)) (hR.at_ (by simp)))
    go_wp2_with fail
    refine call_then s2.out ?_
    intro w10 hw
    replace hb := below_next hb hb.size hw
    clear hw s2 hR
    go_wp2
    go_ret
    exact ⟨rfl, hb⟩
  · have huv := hne.out hpq
    replace hpq := Lib.hid hpq
    replace huv := Lib.hid huv
    clear hne heq
    have s1 := Lib.hid (same_no U V (some ⟨g5, 0, none⟩) (some ⟨g6, 0, none⟩) L L L m3.out m4.out (by omega) huv.out w4 (hR.at_ (by simp)) (hR.at_ (by simp)))
    go_wp2_with fail
    refine call_then s1.out ?_
    intro w9 hw
    replace hb := below_next hb hb.size hw
    replace hR := hR.up hw
    clear hw s1
    have s2 := Lib.hid (same_no P Q (some ⟨g3, 0, none⟩) (some ⟨g4, 0, none⟩) L L L lP.out lQ.out (by omega) hpq.out w9 (hR.at_ (by simp)) (hR.at_ (by simp)))
    go_wp2_with fail
    refine call_then s2.out ?_
    intro w10 hw
    replace hb := below_next hb hb.size hw
    clear hw s2 hR
    go_wp2
    go_ret
    exact ⟨rfl, hb⟩
set_option maxHeartbeats 2000000 in
theorem tapeUnlike_big (n : Int) (A B C D : Option Addr) (L Lm Lk Ld c d e c4 : Nat) (hm1 : L ≤ maxLen) (hm2 : Lm ≤ maxLen) (hm3 : Lk ≤ maxLen) (hm4 : Ld ≤ maxLen) (hbig : 20 < L ∨ 20 < Lm ∨ 20 < Lk ∨ 20 < Ld) (w : World) :
    Calls Try.prog 5 #[.int .u8 n, .slice A L c, .slice B Lm d, .slice C Lk e, .slice D Ld c4] w fun e w' => e = .returned (.bool true) ∧ Below w.heap.size w w' := by
  unfold maxLen at hm1 hm2 hm3 hm4
  by_cases h1 : 20 < L
  · have b1 : (20 : Int) < (L : Int) := by omega
    clear hbig
    go_enter Try.func5, Try.ntmps5
    go_wp2_with fail
    refine call_then (tawake _) ?_
    intro w1 hb
    go_wp2
    go_ret
    exact ⟨rfl, hb⟩
  · by_cases h2 : 20 < Lm
    · have b1 : ¬ (20 : Int) < (L : Int) := by omega
      have b2 : (20 : Int) < (Lm : Int) := by omega
      clear hbig
      go_enter Try.func5, Try.ntmps5
      go_wp2_with fail
      refine call_then (tawake _) ?_
      intro w1 hb
      go_wp2
      go_ret
      exact ⟨rfl, hb⟩
    · by_cases h3 : 20 < Lk
      · have b1 : ¬ (20 : Int) < (L : Int) := by omega
        have b2 : ¬ (20 : Int) < (Lm : Int) := by omega
        have b3 : (20 : Int) < (Lk : Int) := by omega
        clear hbig
        go_enter Try.func5, Try.ntmps5
        go_wp2_with fail
        refine call_then (tawake _) ?_
        intro w1 hb
        go_wp2
        go_ret
        exact ⟨rfl, hb⟩
      · have b1 : ¬ (20 : Int) < (L : Int) := by omega
        have b2 : ¬ (20 : Int) < (Lm : Int) := by omega
        have b3 : ¬ (20 : Int) < (Lk : Int) := by omega
        have b4 : (20 : Int) < (Ld : Int) := by omega
        clear hbig
        go_enter Try.func5, Try.ntmps5
        go_wp2_with fail
        refine call_then (tawake _) ?_
        intro w1 hb
        go_wp2
        go_ret
        exact ⟨rfl, hb⟩
theorem tapeUnlike_walk (n : Int) (n0 : 0 ≤ n) (n1 : n ≤ 255) (ls ms ks ds : List Int) (A B C D : Option Addr) (c d e c4 : Nat) (hl : ElemsOK ls) (hm : ElemsOK ms) (hk : ElemsOK ks) (hd : ElemsOK ds) (hm1 : ls.length ≤ maxLen) (hm2 : ms.length ≤ maxLen) (hm3 : ks.length ≤ maxLen) (hm4 : ds.length ≤ maxLen)
    (w : World) (hA : ElemsAt w A ls) (hB : ElemsAt w B ms) (hC : ElemsAt w C ks) (hD : ElemsAt w D ds) :
    Calls Try.prog 5 #[.int .u8 n, .slice A ls.length c, .slice B ms.length d, .slice C ks.length e, .slice D ds.length c4] w fun e w' => e = .returned (.bool true) ∧ Below w.heap.size w w' := by
  by_cases hbig : 20 < ls.length ∨ 20 < ms.length ∨ 20 < ks.length ∨ 20 < ds.length
  · exact tapeUnlike_big n A B C D _ _ _ _ c d e c4 hm1 hm2 hm3 hm4 hbig w
  · rcases (show n % 2 = 0 ∨ n % 2 = 1 by omega) with h | h
    · exact tapeUnlike_small n 1 (by omega) (by omega) ls ms ks ds A B C D _ _ _ _ c d e c4 rfl rfl rfl rfl (by omega) (by omega) (by omega) (by omega) hl hm hk hd (F_even n h n0 n1) inYes1 (fval_yes 1 (.inl rfl)) opBy_sub1 w hA hB hC hD
    · exact tapeUnlike_small n 2 (by omega) (by omega) ls ms ks ds A B C D _ _ _ _ c d e c4 rfl rfl rfl rfl (by omega) (by omega) (by omega) (by omega) hl hm hk hd (F_odd n h n0 n1) inYes2 (fval_yes 2 (.inr rfl)) opBy_sub2 w hA hB hC hD

theorem own_tapeUnlike : ownKnob Try.prog.godebug = none := by kernel_rfl
set_option maxRecDepth 100000 in
theorem lifted_tapeUnlike (os : Os) (started : os.Started) (H : Type) (enc : TypeId × Value → H) :
    ReturnsInHanded {} Try.checked os 5 .any (Rows.tapeUnlikeSpec.pre6 enc Try.prog Try.f5 Rows.tapeUnlikeRow.domain false) (Rows.tapeUnlikeSpec.post enc Try.prog Try.f5 false true false false) := by
  refine returnsInHanded_of_change (C := Try.checked) own_tapeUnlike started (by kernel_rfl) Try.func5
    (ChangeSpec.witness6 (enc := enc) (C := Try.checked) false ⟨#[], #[.int .u8 0, .slice none 0 0, .slice none 0 0, .slice none 0 0, .slice none 0 0], []⟩ 8 (by kernel_rfl) (by kernel_rfl) (by kernel_rfl) (by kernel_rfl)) ?_
  intro W base args ds gs before hval0 hW hcnd _
  have hval : ∀ (j : Nat) t v, Try.f5.params[j]? = some t → args[j]? = some v → Value.okWide Try.prog W .any base t v := hval0
  have hW' := hW
  obtain ⟨p, q, hA0, hV, rfl, hfz, hnd⟩ := hW
  have hA : DataW.TrodAll enc Try.prog W 0 (fun _ => true) true Try.f5.params.toList args.toList ds p := hA0
  rw [Try.params5] at hA hval
  clear hA0 hval0
  obtain ⟨v0, vs0, d0, ds0, p0, q0, hargs, rfl, rfl, h0, r0⟩ := trodAll_cons hA
  obtain ⟨v1, vs1, d1, ds1, p1, q1, rfl, rfl, rfl, h1, r1⟩ := trodAll_cons r0
  obtain ⟨v2, vs2, d2, ds2, p2, q2, rfl, rfl, rfl, h2, r2⟩ := trodAll_cons r1
  obtain ⟨v3, vs3, d3, ds3, p3, q3, rfl, rfl, rfl, h3, r3⟩ := trodAll_cons r2
  obtain ⟨v4, vs4, d4, ds4, p4, q4, rfl, rfl, rfl, h4, r4⟩ := trodAll_cons r3
  obtain ⟨rfl, rfl, rfl⟩ := trodAll_nil r4
  obtain rfl : args = #[v0, v1, v2, v3, v4] := by cases args; simp_all
  obtain ⟨rfl, rfl⟩ := trodVars_none hV
  obtain ⟨a0, rfl, _, _, w0⟩ := open_int Try.underlying5 (hval 0 5 v0 rfl rfl) h0
  obtain ⟨A, ls, c, rfl, e1, e2, hl, okl⟩ := open_elems (hval 1 22 v1 rfl rfl) h1
  obtain ⟨B, ms, d, rfl, e3, e4, hm, okm⟩ := open_elems (hval 2 22 v2 rfl rfl) h2
  obtain ⟨C, ks, e, rfl, e5, e6, hk, okk⟩ := open_elems (hval 3 22 v3 rfl rfl) h3
  obtain ⟨D, ds, c4, rfl, e7, e8, hd, okd⟩ := open_elems (hval 4 22 v4 rfl rfl) h4
  have hr : 0 ≤ a0 ∧ a0 ≤ 255 := by simpa [Lit.wf, IntKind.min, IntKind.max, IntKind.signed, IntKind.bits] using w0
  refine (tapeUnlike_walk a0 hr.1 hr.2 ls ms ks ds A B C D c d e c4 okl okm okk okd (by omega) (by omega) (by omega) (by omega) W hl hm hk hd).mono fun e W' ⟨he, hb⟩ => ?_
  subst he
  exact ⟨_, rfl, law_true (by decide +kernel) rfl rfl Try.underlying4 hW' rfl hb⟩
theorem over_tapeUnlike : Rows.tapeUnlikeRow.holds Try.pinned (OpenSpec.ofChange Rows.tapeUnlikeSpec) :=
  OpenClaim.holds_of_wide 5 Try.f5 rfl rfl rfl rfl rfl rfl rfl ⟨rfl, rfl, rfl, rfl, rfl⟩ rfl rfl rfl rfl rfl (by kernel_rfl) Try.func5 (by kernel_rfl)
    (of_decide_eq_true (by kernel_rfl)) (by unfold Func.isWrapper; first | (rw [if_pos (by decide +kernel)]; kernel_rfl) | (rw [if_neg (by decide +kernel)]; exact ⟨rfl, rfl⟩))
    (fun os started H enc _ => lifted_tapeUnlike os started H enc)
theorem tapeUnlike_proved : Rows.TapeUnlikeSaid := over_tapeUnlike
#print axioms tapeUnlike_proved
end Go.Proofs.Ytobannolnjmegaa
