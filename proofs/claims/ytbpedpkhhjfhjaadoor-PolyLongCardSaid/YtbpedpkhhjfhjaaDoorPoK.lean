/-
  The law's walk: sums, products, values.
-/
import Derived.Test.YtbpedpkhhjfhjaaDoorPoJ
import Derived.Deep.DeepCutAuto
import Derived.Deep.CutBlock
namespace Go.Proofs.YtbpedpkhhjfhjaaDoor
open Go.RowKit F Flow
set_option linter.unusedVariables false
set_option linter.unusedSimpArgs false
attribute [local go_sem] eql_elem

theorem ElemsAt.off2 {w : World} {A : Option Addr} {p i j : Nat} {xs : List Int} {v u : Value} (h : ElemsAt w A xs) (hp : ∀ b o, A = some ⟨b, o, none⟩ → b ≠ p) : ElemsAt ((w.setCell ⟨p, i, none⟩ v).setCell ⟨p, j, none⟩ u) A xs := by
  intro k hk
  obtain ⟨b, o, e, h0, h1⟩ := h k hk
  subst e
  have hne := hp b o rfl
  exact ⟨b, o, rfl, (World.cell?_setCell_other _ _ _ _ (fun e => by cases e; exact hne rfl)).trans ((World.cell?_setCell_other _ _ _ _ (fun e => by cases e; exact hne rfl)).trans h0), (World.cell?_setCell_other _ _ _ _ (fun e => by cases e; exact hne rfl)).trans ((World.cell?_setCell_other _ _ _ _ (fun e => by cases e; exact hne rfl)).trans h1)⟩
/-- What the law has at hand. -/
structure PSK (w : World) (Ap Aq As Am : Option Addr) (F G S P : Nat → Int) (n k L b : Nat) (x : Int) (wr : World) : Prop where
  below : Below w.heap.size w wr
  p : ElemsAt wr Ap (lst F n)
  q : ElemsAt wr Aq (lst G k)
  s : ElemsAt wr As (lst S n)
  m : ElemsAt wr Am (lst P L)
  x : Holds wr b x
theorem PSK.up {w : World} {Ap Aq As Am : Option Addr} {F G S P : Nat → Int} {n k L b : Nat} {x : Int} {w1 w2 : World} (h : PSK w Ap Aq As Am F G S P n k L b x w1) (hb : Below w1.heap.size w1 w2) : PSK w Ap Aq As Am F G S P n k L b x w2 :=
  ⟨below_next h.below h.below.size hb, h.p.up hb, h.q.up hb, h.s.up hb, h.m.up hb, h.x.up hb⟩
set_option maxRecDepth 20000 in
set_option maxHeartbeats 8000000 in
theorem polySums_f (n f x : Int) (hF : ∀ w, Calls Tryd.prog 11 #[.int .u8 n] w fun e w' => e = .returned (.int .u8 f) ∧ Below w.heap.size w w') (ft : Ft f) (hR : ∀ m, m ≤ 10 → RootOf f m (rt f m)) (f0 : 0 ≤ f ∧ f ≤ 2) (x0 : 0 ≤ x) (x1 : x < 340282366920938463463374607431768211456)
    (A B : Option Addr) (ls ms : List Int) (N c N2 c2 : Nat) (hl : ls.length = N) (hm : N ≤ maxLen) (hls : ElemsOK ls) (hl2 : ms.length = N2) (hm2 : N2 ≤ maxLen) (hms : ElemsOK ms) (w : World) (hT : Tabs w) (hA : ElemsAt w A ls) (hB : ElemsAt w B ms) :
    Calls Tryd.prog 3 #[.int .u8 n, .slice A N c, .slice B N2 c2, .agg #[.int .u64 (lo x), .int .u64 (hi x)]] w fun e w' => e = .returned (.bool true) ∧ Below w.heap.size w w' := by
  have hw8 : IntKind.i64.wrap f = f := IntWalk.i64_in _ (by omega)
  have hs1 := Lib.hid (fun w hA => some_any f ls A N c 24 hl hm hls (by omega) w hA)
  have hs2 := Lib.hid (fun w hA => some_any f ms B N2 c2 24 hl2 hm2 hms (by omega) w hA)
  have hofx := Lib.hid (of_any f x x0 x1)
  unfold SOut at hs1 hs2
  have hp0 := rl_in f ls
  have hq0 := rl_in f ms
  have hn24 : min N 24 ≤ 24 := by omega
  have hk24 : min N2 24 ≤ 24 := by omega
  have hz0 : 0 ≤ redu f x ∧ redu f x < M f := ⟨redu_nonneg _ _, redu_lt _ _⟩
  generalize rl f ls = F at *
  generalize rl f ms = G at *
  generalize min N 24 = n1 at *
  generalize min N2 24 = k1 at *
  obtain ⟨P, L, hP, hL, -, -, hpm, hpr⟩ := products ft hR F G n1 k1 hp0 hq0 (by omega) (by omega) (by omega)
  obtain ⟨z, hz⟩ : ∃ z, z = redu f x := ⟨_, rfl⟩
  rw [← hz] at hz0 hofx
  clear hz
  replace hpm := Lib.hid hpm
  replace hpr := Lib.hid hpr
  have hM := M_lt f
  have hz1 : 0 ≤ z ∧ z < 340282366920938463463374607431768211456 := by omega
  obtain ⟨S, hS⟩ : ∃ S : Nat → Int, S = fun i => mul f (F i) z := ⟨_, rfl⟩
  have hmulz : Hid (∀ i, ∀ w, Calls Tryd.prog 15 #[.int .i64 f, .agg #[.int .u64 (lo (F i)), .int .u64 (hi (F i))], .agg #[.int .u64 (lo z), .int .u64 (hi z)]] w fun e w' => e = .returned (.agg #[.int .u64 (lo (S i)), .int .u64 (hi (S i))]) ∧ Below w.heap.size w w') := Lib.hid (fun i w => by
    have h := hp0 i
    rw [hS]
    exact mul_any f (F i) z h.1 (by omega) hz1.1 hz1.2 w)
  have hsc := Lib.hid (fun A c w h => scale_any ft F n1 z A c (lim_f (f := f) hp0) (by omega) hz1.1 hz1.2 w h)
  have hSin : ∀ t, 0 ≤ S t ∧ S t < M f := fun t => by rw [hS]; exact mul_bound f _ _
  rw [← hS] at hsc
  unfold POut at hsc
  have hpa := Lib.hid (fun A c w h => pat_any ft F n1 z A c (lim_f (f := f) hp0) (by omega) hz1.1 hz1.2 w h)
  rw [rd_same hp0, redu_of_lt hz0.1 hz0.2] at hpa
  have hra := Lib.hid (fun A c w h => rat_any f z (lst F n1) A n1 c (lst_length _ _) (by omega) (lst_in (fun t _ => hp0 t)) hz0.1 hz0.2 w h)
  rw [pS_pf] at hra
  have hadd := Lib.hid (fun A B c d w hA hB => padd_any ft F G n1 k1 A B c d (lim_f (f := f) hp0) (lim_f (f := f) hq0) (by omega) (by omega) w hA hB)
  have hsum := Lib.hid (fun A B c d w hA hB => rsum_any f F G n1 k1 hp0 hq0 (by omega) (by omega) A B c d w hA hB)
  unfold POut at hadd
  unfold ROut at hsum hpr
  have htrim := Lib.hid (fun A c w h => trim_any F n1 A c (lim_f (f := f) hp0) (by omega) w h)
  unfold POut at htrim
  have hdeg := Lib.hid (fun A c w h => deg_any F n1 A c (lim_f (f := f) hp0) (by omega) w h)
  have hrt := Lib.hid (fun A c hc => rtrim_fix F n1 A c (lim_f (f := f) hp0) (by omega) hc)
  have hrs := Lib.hid (fun A c hc => rtrim_fix S n1 A c (lim_f (f := f) hSin) (by omega) hc)
  have hsame : Hid (∀ (F : Nat → Int) (n : Nat), n ≤ 5000 → ∀ A B c d w, ElemsAt w A (lst F n) → ElemsAt w B (lst F n) → Calls Tryd.prog 16 #[.slice A n c, .slice B n d] w fun e w' => e = .returned (.bool true) ∧ Below w.heap.size w w') := Lib.hid (fun F n hn A B c d w hA hB => by
    have h := rsame_eq (lst F n) A B c d (by rw [lst_length]; exact hn) w hA hB
    rw [lst_length] at h
    exact h)
  have hT1 : tl F n1 ≤ n1 := tl_le _ _
  have hT2 : tl S n1 ≤ n1 := tl_le _ _
  have hT3 : tl (av f F G n1 k1) (max n1 k1) ≤ 48 := by have := tl_le (av f F G n1 k1) (max n1 k1); omega
  generalize tl F n1 = T1 at *
  generalize tl S n1 = T2 at *
  generalize tl (av f F G n1 k1) (max n1 k1) = T3 at *
  generalize av f F G n1 k1 = V at *
  obtain ⟨Y, hY⟩ : ∃ Y, Y = pf z F n1 % M f := ⟨_, rfl⟩
  rw [← hY] at hpa hra
  have hsuc : Hid (∀ j, lst S (j + 1) = lst S j ++ [S j]) := Lib.hid (fun j => lst_succ _ _)
  obtain ⟨i0, hinf, hz0', hz1', hz2'⟩ := info_parts info_elemv
  replace hinf := Lib.hid hinf
  replace hF := Lib.hid hF
  clear hl hm hls hl2 hm2 hms x0 x1 hS hSin hP hp0 hq0 hz0 hz1 hM hY
  go_enter Tryd.func3, Tryd.ntmps3
  go_wp2_with fail
  refine name_calls (fun w1 => Below w.heap.size w w1 ∧ Holds w1 w.heap.size x) ⟨(Below.refl _ _).alloc (Nat.le_refl _) _, alloc_at rfl⟩ ?_
  rintro w1 ⟨hb, kx⟩
  refine call_then (pawake _ (hT.up hb)) ?_
  intro w2 hb2
  replace hb := below_next hb hb.size hb2
  replace kx := kx.up hb2
  clear hb2
  go_wp2_with fail
  refine call_then (hF.out _) ?_
  intro w2 hb2
  replace hb := below_next hb hb.size hb2
  replace kx := kx.up hb2
  clear hb2
  go_wp2_with fail
  refine call_then (hF.out _) ?_
  intro w2 hb2
  replace hb := below_next hb hb.size hb2
  replace kx := kx.up hb2
  clear hb2
  go_wp2_with fail
  refine (hs1.out _ (hA.up hb)).mono ?_
  rintro e w2 ⟨Ap, cp, hcp, rfl, hb2, hp, hpn⟩
  replace hpn : ∀ b o, Ap = some ⟨b, o, none⟩ → b ≠ w.heap.size := fun b o e => by have := hpn b o e; have := lt_of_get kx; omega
  replace hb := below_next hb hb.size hb2
  replace kx := kx.up hb2
  clear hb2
  go_wp2_with fail
  refine (hs2.out _ (hB.up hb)).mono ?_
  rintro e w2 ⟨Aq, cq, hcq, rfl, hb2, hq, hqn⟩
  replace hqn : ∀ b o, Aq = some ⟨b, o, none⟩ → b ≠ w.heap.size := fun b o e => by have := hqn b o e; have := lt_of_get kx; omega
  replace hb := below_next hb hb.size hb2
  replace kx := kx.up hb2
  replace hp := hp.up hb2
  clear hb2 hA hB hs1 hs2
  obtain ⟨s0, s1, s2, s3⟩ := blk2 kx
  go_wp2_with fail
  clear s0 s1 s2 s3
  refine call_then (hofx.out _) ?_
  intro w2 hb2
  replace hb := below_next hb hb.size hb2
  replace kx := kx.up hb2
  replace hp := hp.up hb2
  replace hq := hq.up hb2
  clear hb2 hofx
  obtain ⟨s0, s1, s2, s3⟩ := blk2 kx
  go_wp2_with fail
  refine name_calls (fun w5 => Below w.heap.size w w5 ∧ Holds w5 w.heap.size z ∧ ElemsAt w5 Ap (lst F n1) ∧ ElemsAt w5 Aq (lst G k1)) ⟨below_store2 hb (Nat.le_refl _), kx.set _, hp.off2 hpn, hq.off2 hqn⟩ ?_
  clear hb kx hp hq hpn hqn s0 s1 s2 s3
  rintro w5 ⟨hb, kx, hp, hq⟩
  refine (hpm.out _ _ _ _ _ (hT.up hb) hp hq).mono ?_
  rintro e w6 ⟨Am, rfl, hb2, hLi⟩
  have hm := hLi.elems
  replace hb := below_next hb hb.size hb2
  replace kx := kx.up hb2
  replace hp := hp.up hb2
  replace hq := hq.up hb2
  clear hb2 hLi hpm
  go_wp2
  obtain ⟨B0, hB0⟩ : ∃ b, b = w6.heap.size := ⟨_, rfl⟩
  have hBw : w6.heap.size ≤ B0 := by omega
  have hown : w6.ownsRow B0 25 2 (.slice none 0 0) 0 (ecells (lst S 0)) := World.ownsRow_nil _ _ _ _
  have hBs : B0 ≤ w6.heap.size := by omega
  clear hB0
  go_loopw [15, 43] (fun y i wr => ∃ (j : Nat) (A' : Option Addr) (c' : Nat), j ≤ n1 ∧ i = .int .i64 (j : Int) ∧ y = .slice A' j c' ∧ Below w6.heap.size w6 wr ∧ B0 ≤ wr.heap.size ∧ wr.ownsRow B0 25 2 (.slice A' j c') j (ecells (lst S j))) (fun _ i _ => n1 - (intOf i).toNat)
  case atStart => exact ⟨0, none, 0, Nat.zero_le _, rfl, rfl, Below.refl _ _, hBs, hown⟩
  case round =>
    clear hown hBs
    obtain ⟨j, A', c', hj, rfl, rfl, hv, hBs, hown⟩ := hrel
    have i9 : (0 : Int) ≤ (j : Int) := by omega
    by_cases hlt : j < n1
    · obtain ⟨b, o, e, c0, c1⟩ := (hp.up hv) j (by rw [lst_length]; exact hlt)
      subst e
      rw [lst_at F hlt] at c0 c1
      have hml := Lib.hid (hmulz.out j)
      have hsj := Lib.hid (hsuc.out j)
      have kx1 := kx.up hv
      generalize F j = y at *
      generalize S j = t at *
      have i8 : (j : Int) < (n1 : Int) := by omega
      have l1 := World.block_lt_of_cell? _ _ c0
      have l2 : b ≠ wr.heap.size := Nat.ne_of_lt l1
      have l3 := lt_of_get kx1
      have l4 : w.heap.size ≠ wr.heap.size := Nat.ne_of_lt l3
      obtain ⟨s0, s1, s2, s3⟩ := blk2 kx1
      go_wp2_with fail
      refine name_calls (fun w7 => Below w6.heap.size w6 w7 ∧ B0 ≤ w7.heap.size ∧ w7.ownsRow B0 25 2 (.slice A' j c') j (ecells (lst S j))) ⟨hv.alloc hv.size _, by simp; omega, hown.alloc _⟩ ?_
      clear hv hBs hown c0 c1 l1 l2 l3 l4 s0 s1 s2 s3 kx1
      rintro w7 ⟨hv, hBs, hown⟩
      refine call_then (hml.out _) ?_
      intro w8 hb5
      replace hv := below_next hv hv.size hb5
      replace hBs := Nat.le_trans hBs hb5.size
      replace hown := ownsn_up hown hb5
      clear hb5
      have hb6 := hv.alloc hv.size (.cells #[.int .u64 (lo t), .int .u64 (hi t)] 25 (0, 0))
      have hown2 := hown.alloc (.cells #[.int .u64 (lo t), .int .u64 (hi t)] 25 (0, 0))
      have hBs2 : B0 ≤ (World.alloc w8 (.cells #[.int .u64 (lo t), .int .u64 (hi t)] 25 (0, 0))).heap.size := Nat.le_trans hBs (by simp)
      have hz0 := hz0'
      have hz1 := hz1'
      have hz2 := hz2'
      go_wp2_with (at_builtin; refine wpList_append_own _ rfl _ _ 22 rfl B0 25 i0 (.agg #[.int .u64 0, .int .u64 0]) 2 16 Tryd.underlying22 hinf.out hz0 hz1 hz2 rfl (by decide) _ _ _ rfl hown2 ⟨_, 0, none⟩ 1 1 (ecells [t]) rfl rfl (news_elem2 (by simp)) (by first | (simp [Value.oneCell']; done) | simp [ecells, Value.oneCell']) (by unfold maxLen; omega) (by omega) hBs2 ?_; intro v1 w6 hown6 hg6 _; have hb7 := grownn_below hb6 hBw hown2 hg6; have hk6 := fun (x : Nat) (hx : x < B0) => hg6.block x (by omega) (fun e => by have := (hown2.lt x e.symm).1; omega); have hsz6 := Nat.le_trans hBs2 hg6.size; clear hg6; obtain ⟨a9, c9, rfl⟩ := owns_slc hown6)
      exact ⟨⟨j + 1, a9, c9, by omega, by go_num, rfl, hb7, hsz6, by rw [hsj.out, ecells_append]; exact hown6⟩, by simp [intOf]; omega⟩
    · obtain rfl : j = n1 := by omega
      obtain ⟨A2', c2', e, hcs, hs, -⟩ := owns_out hown
      cases e
      have hk : PSK w Ap Aq A' Am F G S P j k1 L w.heap.size z wr := ⟨below_next hb hb.size hv, hp.up hv, hq.up hv, hs, hm.up hv, kx.up hv⟩
      clear hb hp hq hs hm kx hv hown hBs hBw hmulz hsuc hz0' hz1' hz2' hinf
      obtain ⟨Ar, hr1, hr2⟩ := hrt.out Ap cp hcp
      obtain ⟨Av, hv1, hv2⟩ := hrs.out A' c' hcs
      clear hrt hrs
      replace hr1 := Lib.hid hr1
      replace hr2 := Lib.hid hr2
      replace hv1 := Lib.hid hv1
      replace hv2 := Lib.hid hv2
      go_wp2
      refine seg_start 58 (by kernel_rfl) (by decide) ?_
      intro v0 hv
      replace hk := hk.up hv
      clear hv
      refine seg_batch 51 [0, 1, 2, 3, 4, 5, 6] (by kernel_rfl) rfl (by kernel_rfl) (by kernel_rfl) (by kernel_rfl) ?_
      apply Exists.intro
      refine ⟨fun ι _ φ hφ => ?_, fun v' hv => ?_⟩
      · obtain ⟨d0, d1⟩ := hφ.two hk.x
        have hk2 := fun i => hk.up (hφ.old i)
        repeat (refine pick_step rfl ?_; go_big_quiet_step (fail))
        exact pick_end
      replace hk := hk.up hv
      clear hv
      refine seg_one 7 _ (by decide) rfl (by kernel_rfl) ?_
      intro v' K hv hK
      replace hk := hk.up hv
      clear hv
      replace hK := Lib.hid hK
      go_simp
      refine (hpr.out _ _ _ _ _ hcp hcq hk.p hk.q).mono ?_
      rintro e v3 ⟨A7, c7, h7, rfl, hv, e7⟩
      replace hk := hk.up hv
      refine hK.out _ _ hv ?_
      clear hv hK K hpr
      refine seg_batch 41 [8, 9, 10, 11, 12, 13, 15, 16, 17] (by kernel_rfl) rfl (by kernel_rfl) (by kernel_rfl) (by kernel_rfl) ?_
      apply Exists.intro
      refine ⟨fun ι _ φ hφ => ?_, fun v' hv => ?_⟩
      · obtain ⟨d0, d1⟩ := hφ.two hk.x
        have hk2 := fun i => hk.up (hφ.old i)
        have e72 := fun i => e7.up (hφ.old i)
        repeat (refine pick_step rfl ?_; go_big_quiet_step ((first
          | (go_at_call 16; exact flow_call hφ (hsame.out P L (by omega) _ _ _ _ _ (hk2 _).m (e72 _))))))
        exact pick_end
      replace hk := hk.up hv
      clear hv e7
      refine seg_one 14 _ (by decide) rfl (by kernel_rfl) ?_
      intro v' K hv hK
      replace hk := hk.up hv
      clear hv
      replace hK := Lib.hid hK
      go_simp
      refine (hadd.out _ _ _ _ _ hk.p hk.q).mono ?_
      rintro e v3 ⟨A8, rfl, hv, hL8⟩
      replace hk := hk.up hv
      refine hK.out _ _ hv ?_
      clear hv hK K hadd
      have e8 := hL8.elems
      clear hL8
      refine seg_one 18 _ (by decide) rfl (by kernel_rfl) ?_
      intro v' K hv hK
      replace hk := hk.up hv
      replace e8 := e8.up hv
      clear hv
      replace hK := Lib.hid hK
      go_simp
      refine (hsum.out _ _ _ _ _ hk.p hk.q).mono ?_
      rintro e v3 ⟨A9, c9, h9, rfl, hv, e9⟩
      replace hk := hk.up hv
      replace e8 := e8.up hv
      refine hK.out _ _ hv ?_
      clear hv hK K hsum
      refine seg_batch 32 [19, 20, 21, 22, 23, 24, 26] (by kernel_rfl) rfl (by kernel_rfl) (by kernel_rfl) (by kernel_rfl) ?_
      apply Exists.intro
      refine ⟨fun ι _ φ hφ => ?_, fun v' hv => ?_⟩
      · obtain ⟨d0, d1⟩ := hφ.two hk.x
        have hk2 := fun i => hk.up (hφ.old i)
        have e82 := fun i => e8.up (hφ.old i)
        have e92 := fun i => e9.up (hφ.old i)
        repeat (refine pick_step rfl ?_; go_big_quiet_step ((first
          | (go_at_call 16; exact flow_call hφ (hsame.out V T3 (by omega) _ _ _ _ _ (e82 _) (e92 _))))))
        exact pick_end
      replace hk := hk.up hv
      clear hv e8 e9
      refine seg_one 25 _ (by decide) rfl (by kernel_rfl) ?_
      intro v' K hv hK
      replace hk := hk.up hv
      clear hv
      replace hK := Lib.hid hK
      go_simp
      refine (hsc.out _ _ _ hk.p).mono ?_
      rintro e v3 ⟨A10, rfl, hv, hL10⟩
      replace hk := hk.up hv
      refine hK.out _ _ hv ?_
      clear hv hK K hsc
      have e10 := hL10.elems
      clear hL10
      refine seg_batch 14 [27, 28, 29, 30, 31, 32, 33, 34, 35, 36, 37, 38, 39, 40, 41, 42, 44] (by kernel_rfl) rfl (by kernel_rfl) (by kernel_rfl) (by kernel_rfl) ?_
      apply Exists.intro
      refine ⟨fun ι _ φ hφ => ?_, fun v' hv => ?_⟩
      · obtain ⟨d0, d1⟩ := hφ.two hk.x
        have hk2 := fun i => hk.up (hφ.old i)
        have e102 := fun i => e10.up (hφ.old i)
        repeat (refine pick_step rfl ?_; go_big_quiet_step ((first
          | (go_at_call 21; exact flow_call hφ (hv1.out _ (hk2 _).s))
          | (go_at_call 16; exact flow_call hφ (hsame.out S T2 (by omega) _ _ _ _ _ (e102 _) (hv2.out _ (hk2 _).s)))
          | (go_at_call 22; exact flow_call hφ (hpa.out _ _ _ (hk2 _).p))
          | (go_at_call 23; exact flow_call hφ (hra.out _ _ _ (hk2 _).p)))))
        exact pick_end
      replace hk := hk.up hv
      clear hv e10
      refine seg_one 43 _ (by decide) rfl (by kernel_rfl) ?_
      intro v' K hv hK
      replace hk := hk.up hv
      clear hv
      replace hK := Lib.hid hK
      go_simp
      refine (htrim.out _ _ _ hk.p).mono ?_
      rintro e v3 ⟨A11, rfl, hv, hL11⟩
      replace hk := hk.up hv
      refine hK.out _ _ hv ?_
      clear hv hK K htrim
      have e11 := hL11.elems
      clear hL11
      refine seg_batch 0 [45, 46, 47, 48, 49, 50, 51, 52, 53, 54, 55, 56, 57] (by kernel_rfl) rfl (by kernel_rfl) (by kernel_rfl) (by kernel_rfl) ?_
      apply Exists.intro
      refine ⟨fun ι _ φ hφ => ?_, fun v' hv => ?_⟩
      · obtain ⟨d0, d1⟩ := hφ.two hk.x
        have hk2 := fun i => hk.up (hφ.old i)
        have e112 := fun i => e11.up (hφ.old i)
        repeat (refine pick_step rfl ?_; go_big_quiet_step ((first
          | (go_at_call 21; exact flow_call hφ (hr1.out _ (hk2 _).p))
          | (go_at_call 16; exact flow_call hφ (hsame.out F T1 (by omega) _ _ _ _ _ (e112 _) (hr2.out _ (hk2 _).p)))
          | (go_at_call 25; exact flow_call hφ (hdeg.out _ _ _ (hk2 _).p)))))
        exact pick_end
      replace hk := hk.up hv
      clear hv e11
      refine seg_done rfl (by kernel_rfl) ?_
      intro v5 hv
      replace hk := hk.up hv
      have hb := hk.below
      clear hv hk
      go_wp2
      go_ret
      exact ⟨rfl, hb⟩
end Go.Proofs.YtbpedpkhhjfhjaaDoor
