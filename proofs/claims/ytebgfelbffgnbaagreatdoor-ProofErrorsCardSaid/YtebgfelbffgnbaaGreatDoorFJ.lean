import Derived.Test.YtebgfelbffgnbaaGreatDoorDF
import Derived.RegionTactic
import Derived.BigRegion
/-
  Run: what is said, kind by kind.
-/
namespace Go.Proofs.YtebgfelbffgnbaaGreatDoor
open Go.RowKit Flow F
set_option linter.unusedVariables false
set_option linter.unusedSimpArgs false
attribute [local go_sem] eql_elem

section
variable {F : FuncId} {caps : Array Value} {σ : Type} {St : σ → (Nat → Prop) → World → Prop} {step : σ → List Int → σ} {ans err : σ → List Int → Int} {can : σ → List Int → Prop}
/-- The part that one of so many shares has. -/
structure PartIs (f sh p : Int) : Prop where
  one : 1 ≤ sh
  top : sh < 4611686018427387904
  p0 : 0 ≤ p ∧ p < M f
  mul : mul f sh p = 1
  inv : ∀ w, Calls Tryz.prog 78 #[.int .u8 f, .agg #[.int .u64 (lo sh), .int .u64 (hi sh)]] w fun e w' => e = .returned (.tuple #[.agg #[.int .u64 (lo p), .int .u64 (hi p)], .int .i64 0]) ∧ Below w.heap.size w w'
theorem part_of {f : Int} (hf : f = 1 ∨ f = 2) (sh : Int) (h1 : 1 ≤ sh) (h2 : sh < 4611686018427387904) : ∃ p, PartIs f sh p := by
  have hM := M_big f
  obtain ⟨p, h3, h4, h5⟩ := (invBy_of hf sh (by omega) (by omega)).2 (by rw [redu_in (by omega) (by omega)]; omega)
  exact ⟨p, h1, h2, h3, h4, h5⟩
-- The tail of a call that is answered as it comes.
set_option maxRecDepth 20000 in
set_option maxHeartbeats 4000000 in
theorem run_count (hF : Asking F caps St step ans err can) (x : Ci) (h : x.Good) (hk : x.k = 1) (xs js : List Int) (A B : Option Addr) (N cp n cq : Nat) (sh p : Int) (hp : PartIs x.f sh p) (hl : xs.length = N) (hN : N = x.inN) (hn : n = x.jointN) (hx : ElemsOK xs) (s : σ) (own : Nat → Prop) (w : World) (hs : St s own w) (hA : ElemsAt w A xs) (hno : ∀ a, A = some a → ¬ own a.block)
    (q : Nat → List Int) (hq : q 0 = [xs.getD 0 0, xs.getD 0 0]) (hcan : can s [xs.getD 0 0, xs.getD 0 0]) :
    Calls Tryz.prog 29 #[cvl x, .slice A N cp, .slice B n cq, .int .i64 sh, .func (.func F) #[] caps] w (Ran St step err own q 1 (sub x.f (ans s (q 0)) (xs.getD 0 0)) s w) := by
  have hN1 : 1 ≤ N := by rw [hN]; unfold Ci.inN; rw [if_pos hk]; exact Nat.le_refl _
  have hz0 := hx.at_ (k := 0) (by omega)
  obtain ⟨pa, qo, rfl, ha0, ha1⟩ := hA 0 (by omega)
  have hnp := hno _ rfl
  generalize xs.getD 0 0 = z at *
  rw [Nat.zero_mul, Nat.add_zero] at ha0 ha1
  have hcnt := fun w hs => runCount_ran hF x h z hz0 s hcan own w hs q hq
  clear hcan
  generalize sub x.f (ans s (q 0)) z = said at *
  have hnf := is_func F caps
  have hof := (fb_of h.f).hof sh (by have := hp.one; omega) (by have := hp.top; omega)
  have hinv := hp.inv
  have zm : max (0 : Int) sh = sh := by have := hp.one; omega
  have zu : IntKind.u64.wrap sh = sh := by rw [IntKind.wrap_u64]; have := hp.one; have := hp.top; omega
  obtain ⟨V, hV⟩ : ∃ V : Int, V = p := ⟨p, rfl⟩
  obtain ⟨E, hE⟩ : ∃ E : Int, E = 0 := ⟨0, rfl⟩
  rw [← hE, ← hV] at hinv
  have hE1 : (E != 0) = false := by rw [hE]; rfl
  replace hE := Lib.hid hE
  have hz := h.code
  have hJ := fun w => joint_any x h w
  obtain ⟨k, f, b, l, W, c⟩ := x
  have hC := fun w => ccheck_any k f b l W c w
  have hI := fun w => cin_any k f b l W c h.fits w
  rw [hz] at hC
  unfold cvl at *
  rw [← hN] at hI
  rw [← hn] at hJ
  have b1 : ((N : Int) != (N : Int)) = false := by simp
  have b2 : ((n : Int) != (n : Int)) = false := by simp
  replace hC := Lib.hid hC
  replace hI := Lib.hid hI
  replace hJ := Lib.hid hJ
  simp only at hk hof hinv hcnt
  subst hV
  have hk1 : (k == 1) = true := by rw [hk]; rfl
  have n1 : (0 : Int) < (N : Int) := by omega
  replace hcnt := Lib.hid hcnt
  clear h hz hN hn hA hx hl hno hq hp hk hz0
  replace hof := Lib.hid hof
  replace hinv := Lib.hid hinv
  go_enter Tryz.func29, Tryz.ntmps29
  go_upto_region 1 with (fail)
  refine name_wp (fun w1 => Below w.heap.size w w1 ∧ w1.heap[w.heap.size]? = some (.cells #[.int .u8 k, .int .u8 f, .int .i64 b, .int .i64 l, .int .i64 W, .int .i64 c] 33 (0, 0)) ∧ Holds w1 (w.heap.size + 1) 0) ⟨((Below.refl _ _).alloc (Nat.le_refl _) _).alloc (by simp) _, alloc_keeps (alloc_at rfl), alloc_at (by simp)⟩ ?_
  rintro w1 ⟨hb, k0, kr⟩
  obtain ⟨c0, c1, c2, c3, c4, c5⟩ := blk6 k0
  go_wp2_with fail
  refine call_then (hC.out _) ?_
  intro w2 hv
  replace hb := below_next hb hb.size hv
  replace k0 := keeps hv k0
  replace kr := kr.up hv
  clear hv c0 c1 c2 c3 c4 c5
  obtain ⟨c0, c1, c2, c3, c4, c5⟩ := blk6 k0
  go_wp2_with fail
  refine call_then (hI.out _) ?_
  intro w3 hv
  replace hb := below_next hb hb.size hv
  replace k0 := keeps hv k0
  replace kr := kr.up hv
  clear hv c0 c1 c2 c3 c4 c5
  obtain ⟨c0, c1, c2, c3, c4, c5⟩ := blk6 k0
  go_wp2_with fail
  refine call_then (hJ.out _) ?_
  intro w4 hv
  replace hb := below_next hb hb.size hv
  replace k0 := keeps hv k0
  replace kr := kr.up hv
  clear hv c0 c1 c2 c3 c4 c5
  obtain ⟨c0, c1, c2, c3, c4, c5⟩ := blk6 k0
  go_upto_region 8 with (fail)
  go_cut [13, 14] (fun v y w' => ∃ p3 : Nat, v = .pointer (some ⟨p3, 0, none⟩) ∧ y = .int .i64 E ∧ w.heap.size + 1 < p3 ∧ Below w.heap.size w w' ∧ w'.heap[w.heap.size]? = some (.cells #[.int .u8 k, .int .u8 f, .int .i64 b, .int .i64 l, .int .i64 W, .int .i64 c] 33 (0, 0)) ∧ Holds w' (w.heap.size + 1) 0 ∧ Holds w' p3 V)
  case first =>
    clear c0 c1 c2 c3 c4 c5 hC hI hJ
    have hlr := Lib.hid (lt_of_get kr)
    refine segS_start (gb := fun k => k < w4.heap.size) 15 (by kernel_rfl) (by decide) ?_
    intro v0 hv
    replace hlr := Lib.hid (And.intro hlr.out hv.size)
    replace hb := below_next hb hb.size hv
    replace k0 := keeps hv k0
    replace kr := kr.up hv
    clear hv
    refine segS_batch 3 [0, 1, 2, 3, 4, 5, 6, 7, 8, 9, 10, 11] (by kernel_rfl) rfl (by kernel_rfl) (by kernel_rfl) (by kernel_rfl) ?_
    apply Exists.intro
    refine ⟨fun ι _ φ hφ => ?_, fun v1 hv => ?_⟩
    · have hg : w.heap.size < w4.heap.size := by have := hlr.out.1; omega
      have q := fun i => blk6 ((hφ.old i).keeps k0 hg)
      have q1 := fun i => (q i).2.1
      clear q
      repeat (refine pick_step rfl ?_; go_big_quiet_step ((first
        | (go_at_call 54; exact flowS_call hφ (hof.out _))
        | (go_at_call 78; exact flowS_call hφ (hinv.out _)))))
      exact pick_end
    replace hlr := Lib.hid (And.intro hlr.out.1 (Nat.le_trans hlr.out.2 hv.size))
    replace hb := below_next hb hb.size hv
    replace k0 := keeps hv k0
    replace kr := kr.up hv
    clear hv
    refine segS_one 12 _ (by decide) rfl (by kernel_rfl) ?_
    intro v2 K hv hK
    replace hlr := Lib.hid (And.intro hlr.out.1 (Nat.le_trans hlr.out.2 hv.size))
    replace hb := below_next hb hb.size hv
    replace k0 := keeps hv k0
    replace kr := kr.up hv
    clear hv
    replace hK := Lib.hid hK
    go_simp
    refine hK.out _ _ (HeldS.of_below ((Below.refl _ _).alloc (Nat.le_refl _) _)) ?_
    clear hK K
    replace hb := hb.alloc hb.size (.cells #[.int .u64 (lo 0), .int .u64 (hi 0)] 28)
    replace k0 := alloc_keeps (o := .cells #[.int .u64 (lo 0), .int .u64 (hi 0)] 28) k0
    replace kr := kr.alloc (.cells #[.int .u64 (lo 0), .int .u64 (hi 0)] 28)
    have kp : Holds (v2.alloc (.cells #[.int .u64 (lo 0), .int .u64 (hi 0)] 28)) v2.heap.size 0 := alloc_at rfl
    generalize v2.heap.size = p3 at *
    refine segS_one 13 _ (by decide) rfl (by kernel_rfl) ?_
    intro v3 K hv hK
    replace hb := below_next hb hb.size hv
    replace k0 := keeps hv k0
    replace kr := kr.up hv
    replace kp := kp.up hv
    clear hv
    replace hK := Lib.hid hK
    obtain ⟨t0, t1, t2, t3⟩ := blk2 kp
    go_simp
    refine hK.out _ _ (HeldS.set2 (by have := hlr.out; omega)) ?_
    clear hK K t0 t1 t2 t3
    replace hb := below_store2 hb (show w.heap.size ≤ p3 by have := hlr.out; omega) (u := .int .u64 (lo V)) (v := .int .u64 (hi V))
    replace k0 := store2_far (u := .int .u64 (lo V)) (v := .int .u64 (hi V)) k0 (show w.heap.size ≠ p3 by have := hlr.out; omega)
    replace kr := kr.far (u := .int .u64 (lo V)) (v := .int .u64 (hi V)) (show w.heap.size + 1 ≠ p3 by have := hlr.out; omega)
    replace kp := kp.set V
    refine segS_one 14 _ (by decide) rfl (by kernel_rfl) ?_
    intro v4 K hv hK
    replace hb := below_next hb hb.size hv
    replace k0 := keeps hv k0
    replace kr := kr.up hv
    replace kp := kp.up hv
    clear hv
    replace hK := Lib.hid hK
    go_simp
    refine hK.out _ _ (HeldS.refl _ _) ?_
    clear hK K
    refine segS_done rfl (by kernel_rfl) ?_
    intro v5 hv
    replace hb := below_next hb hb.size hv
    replace k0 := keeps hv k0
    replace kr := kr.up hv
    replace kp := kp.up hv
    clear hv
    go_wp2
    go_meet
    exact ⟨p3, rfl, rfl, by have := hlr.out; omega, hb, k0, kr, kp⟩
  clear c0 c1 c2 c3 c4 c5 hb k0 kr hC hI hJ hof hinv w1 w2 w3 w4
  obtain ⟨p3, rfl, rfl, hp3, hb, k0, kr, kp⟩ := hcut
  generalize V = p at *
  have H : Rn St w own #[.int .u8 k, .int .u8 f, .int .i64 b, .int .i64 l, .int .i64 W, .int .i64 c] [(p3, p), (w.heap.size + 1, 0)] s own wc := ⟨Moved.of_below hb, hF.below hs hb, k0, hF.new hs (Nat.le_refl _), fun q hq => by
    rcases List.mem_cons.1 hq with rfl | hq
    · exact ⟨by simp only; omega, kp, hF.new hs (by simp only; omega)⟩
    · obtain rfl := List.mem_singleton.1 hq
      exact ⟨Nat.lt_succ_self _, kr, hF.new hs (Nat.le_succ _)⟩⟩
  clear hb k0 kr kp
  generalize hpr : w.heap.size + 1 = pr at *
  have hne := Lib.hid (And.intro hpr hp3)
  clear hpr hp3 hs
  obtain ⟨c0, c1, c2, c3, c4, c5⟩ := blk6 H.k0
  go_upto_region 13 with (fail)
  clear c0 c1 c2 c3 c4 c5
  have hg0 : w.heap.size ≤ w.heap.size ∧ ¬ own w.heap.size := ⟨Nat.le_refl _, H.f0⟩
  have hga : pa ≤ w.heap.size ∧ ¬ own pa := ⟨by have := World.block_lt_of_cell? _ _ ha0; simp only at this; omega, hnp⟩
  have hb0 := (World.cell?_of_block (w := w) (a := ⟨pa, qo, none⟩) (H.mv.keep pa (World.block_lt_of_cell? _ _ ha0) hnp).1).trans ha0
  have hb1 := (World.cell?_of_block (w := w) (a := ⟨pa, qo + 1, none⟩) (H.mv.keep pa (World.block_lt_of_cell? _ _ ha0) hnp).1).trans ha1
  refine segS_start (gb := fun kk => kk ≤ w.heap.size ∧ ¬ own kk) 10 (by kernel_rfl) (by decide) ?_
  intro v0 hv
  replace H := H.up hF hv
  have d0 := (hv.cell (World.block_lt_of_cell? _ _ hb0)).trans hb0
  have d1 := (hv.cell (World.block_lt_of_cell? _ _ hb1)).trans hb1
  clear hv hb0 hb1 ha0 ha1
  refine segS_batch 5 [0, 1, 2, 3, 4] (by kernel_rfl) rfl (by kernel_rfl) (by kernel_rfl) (by kernel_rfl) ?_
  apply Exists.intro
  refine ⟨fun ι _ φ hφ => ?_, fun v1 hv => ?_⟩
  · have q := fun i => blk6 ((hφ.old i).keeps H.k0 hg0)
    have q0 := fun i => (q i).1
    have q1 := fun i => (q i).2.1
    have q2 := fun i => (q i).2.2.1
    have q3 := fun i => (q i).2.2.2.1
    have q4 := fun i => (q i).2.2.2.2.1
    have q5 := fun i => (q i).2.2.2.2.2
    clear q
    have e0 := fun i => (World.cell?_of_block (w := v0) (a := ⟨pa, qo, none⟩) ((hφ.old i).block pa (World.block_lt_of_cell? _ _ d0) hga)).trans d0
    have e1 := fun i => (World.cell?_of_block (w := v0) (a := ⟨pa, qo + 1, none⟩) ((hφ.old i).block pa (World.block_lt_of_cell? _ _ d0) hga)).trans d1
    repeat (refine pick_step rfl ?_; go_big_quiet_step (fail))
    exact pick_end
  replace H := H.up hF hv
  clear hv d0 d1 hg0 hga
  refine segS_one 5 _ (by decide) rfl (by kernel_rfl) ?_
  intro v2 K hv hK
  replace H := H.up hF hv
  clear hv
  replace hK := Lib.hid hK
  go_simp
  refine (hcnt.out _ H.st).mono ?_
  rintro e v3 hh
  obtain ⟨r, c', s', ⟨rfl, own2, hm, hs2⟩, hpass⟩ := hh.pass
  clear hh hcnt
  replace hpass := Lib.hid hpass
  refine hK.out _ _ ⟨hm.os, hm.tape, hm.output, hm.size, fun kk hk hg => (hm.keep kk hk hg.2).1⟩ ?_
  clear hK K
  replace H := H.ask hm hs2
  clear hm hs2
  refine segS_batch 2 [6, 7] (by kernel_rfl) rfl (by kernel_rfl) (by kernel_rfl) (by kernel_rfl) ?_
  apply Exists.intro
  refine ⟨fun ι _ φ hφ => ?_, fun v8 hv => ?_⟩
  · repeat (refine pick_step rfl ?_; go_big_quiet_step (fail))
    exact pick_end
  replace H := H.up hF hv
  clear hv
  refine segS_one 8 _ (by decide) rfl (by kernel_rfl) ?_
  intro va K hv hK
  replace H := H.up hF hv
  clear hv
  obtain ⟨t0, t1, t2, t3⟩ := blk2 (H.at (p := pr) (z := 0) (by simp))
  replace hK := Lib.hid hK
  go_simp
  refine hK.out _ _ (HeldS.set2 (fun h => by have := hne.out.1; have := h.1; omega)) ?_
  clear hK K t0 t1 t2 t3
  have H' := H.set hF (mine' := [(pr, r)]) (p := pr) (z0 := 0) (z := r) (by simp) (by simp)
  clear H
  refine segS_one 9 _ (by decide) rfl (by kernel_rfl) ?_
  intro vb K hv hK
  have H := H'.up hF hv
  clear hv H'
  replace hK := Lib.hid hK
  go_simp
  refine hK.out _ _ (HeldS.refl _ _) ?_
  clear hK K
  refine segS_done rfl (by kernel_rfl) ?_
  intro vc hv
  have H9 := H.up hF hv
  clear hv H
  go_wp2
  obtain ⟨r0, r1, -, -⟩ := blk2 (H9.at (p := pr) (z := r) (by simp))
  exact bodyPost_ret (v := .tuple #[.agg #[.int .u64 (lo r), .int .u64 (hi r)], .int .i64 c']) (by simp [results, Tryz.results29, go_sem, r0, r1]) rfl (hpass.out _ _ _ _ ⟨rfl, H9.out⟩)
set_option maxRecDepth 20000 in
set_option maxHeartbeats 4000000 in
theorem run_sum (hF : Asking F caps St step ans err can) (x : Ci) (h : x.Good) (hk : x.k = 2) (xs js : List Int) (A B : Option Addr) (N cp n cq : Nat) (sh p : Int) (hp : PartIs x.f sh p) (hl : xs.length = N) (hN : N = x.inN) (hn : n = x.jointN) (hjl : js.length = n) (hx : ElemsOK xs) (hj : ElemsOK js) (s : σ) (own : Nat → Prop) (w : World) (hs : St s own w) (hA : ElemsAt w A xs) (hno : ∀ a, A = some a → ¬ own a.block)
    (hB : ElemsAt w B js) (hnb : ∀ a, B = some a → ¬ own a.block) (q : Nat → List Int) (hq : ∀ k, q k = [xs.getD k 0]) (hcan : ∀ i, i < N → can (stN step q s i) (q i)) :
    Calls Tryz.prog 29 #[cvl x, .slice A N cp, .slice B n cq, .int .i64 sh, .func (.func F) #[] caps] w (Ran St step err own q N (totS x.f (js.getD 0 0) (fun k => ans (stN step q s k) (q k)) N) s w) := by
  have hn1' : n = 1 := by rw [hn]; unfold Ci.jointN; rw [if_neg (by omega), if_pos hk]
  have hin := h.fits.in_le
  have hz0 := hj.at_ (k := 0) (by omega)
  obtain ⟨pa, qo, rfl, ha0, ha1⟩ := hB 0 (by omega)
  have hnp := hnb _ rfl
  generalize js.getD 0 0 = z at *
  rw [Nat.zero_mul, Nat.add_zero] at ha0 ha1
  have hcnt := fun w1 hs (hm : Moved own own w w1) => runSum_any hF x h xs A N cp hl (by unfold maxLen; omega) hx z hz0 s own w1 hs (hA.moved hno hm) hno q hq hcan
  clear hcan
  generalize totS x.f z (fun k => ans (stN step q s k) (q k)) N = said at *
  have hnf := is_func F caps
  have hof := (fb_of h.f).hof sh (by have := hp.one; omega) (by have := hp.top; omega)
  have hinv := hp.inv
  have zm : max (0 : Int) sh = sh := by have := hp.one; omega
  have zu : IntKind.u64.wrap sh = sh := by rw [IntKind.wrap_u64]; have := hp.one; have := hp.top; omega
  obtain ⟨V, hV⟩ : ∃ V : Int, V = p := ⟨p, rfl⟩
  obtain ⟨E, hE⟩ : ∃ E : Int, E = 0 := ⟨0, rfl⟩
  rw [← hE, ← hV] at hinv
  have hE1 : (E != 0) = false := by rw [hE]; rfl
  replace hE := Lib.hid hE
  have hz := h.code
  have hJ := fun w => joint_any x h w
  obtain ⟨k, f, b, l, W, c⟩ := x
  have hC := fun w => ccheck_any k f b l W c w
  have hI := fun w => cin_any k f b l W c h.fits w
  rw [hz] at hC
  unfold cvl at *
  rw [← hN] at hI
  rw [← hn] at hJ
  have b1 : ((N : Int) != (N : Int)) = false := by simp
  have b2 : ((n : Int) != (n : Int)) = false := by simp
  replace hC := Lib.hid hC
  replace hI := Lib.hid hI
  replace hJ := Lib.hid hJ
  simp only at hk hof hinv hcnt
  subst hV
  have hk1 : (k == 1) = false := by rw [hk]; rfl
  have hk2 : (k == 2) = true := by rw [hk]; rfl
  have n1 : (0 : Int) < (n : Int) := by omega
  replace hcnt := Lib.hid hcnt
  clear h hz hN hn hA hx hl hno hB hj hjl hnb hq hp hk hz0 hn1' hin
  replace hof := Lib.hid hof
  replace hinv := Lib.hid hinv
  go_enter Tryz.func29, Tryz.ntmps29
  go_upto_region 1 with (fail)
  refine name_wp (fun w1 => Below w.heap.size w w1 ∧ w1.heap[w.heap.size]? = some (.cells #[.int .u8 k, .int .u8 f, .int .i64 b, .int .i64 l, .int .i64 W, .int .i64 c] 33 (0, 0)) ∧ Holds w1 (w.heap.size + 1) 0) ⟨((Below.refl _ _).alloc (Nat.le_refl _) _).alloc (by simp) _, alloc_keeps (alloc_at rfl), alloc_at (by simp)⟩ ?_
  rintro w1 ⟨hb, k0, kr⟩
  obtain ⟨c0, c1, c2, c3, c4, c5⟩ := blk6 k0
  go_wp2_with fail
  refine call_then (hC.out _) ?_
  intro w2 hv
  replace hb := below_next hb hb.size hv
  replace k0 := keeps hv k0
  replace kr := kr.up hv
  clear hv c0 c1 c2 c3 c4 c5
  obtain ⟨c0, c1, c2, c3, c4, c5⟩ := blk6 k0
  go_wp2_with fail
  refine call_then (hI.out _) ?_
  intro w3 hv
  replace hb := below_next hb hb.size hv
  replace k0 := keeps hv k0
  replace kr := kr.up hv
  clear hv c0 c1 c2 c3 c4 c5
  obtain ⟨c0, c1, c2, c3, c4, c5⟩ := blk6 k0
  go_wp2_with fail
  refine call_then (hJ.out _) ?_
  intro w4 hv
  replace hb := below_next hb hb.size hv
  replace k0 := keeps hv k0
  replace kr := kr.up hv
  clear hv c0 c1 c2 c3 c4 c5
  obtain ⟨c0, c1, c2, c3, c4, c5⟩ := blk6 k0
  go_upto_region 8 with (fail)
  go_cut [13, 14] (fun v y w' => ∃ p3 : Nat, v = .pointer (some ⟨p3, 0, none⟩) ∧ y = .int .i64 E ∧ w.heap.size + 1 < p3 ∧ Below w.heap.size w w' ∧ w'.heap[w.heap.size]? = some (.cells #[.int .u8 k, .int .u8 f, .int .i64 b, .int .i64 l, .int .i64 W, .int .i64 c] 33 (0, 0)) ∧ Holds w' (w.heap.size + 1) 0 ∧ Holds w' p3 V)
  case first =>
    clear c0 c1 c2 c3 c4 c5 hC hI hJ
    have hlr := Lib.hid (lt_of_get kr)
    refine segS_start (gb := fun k => k < w4.heap.size) 15 (by kernel_rfl) (by decide) ?_
    intro v0 hv
    replace hlr := Lib.hid (And.intro hlr.out hv.size)
    replace hb := below_next hb hb.size hv
    replace k0 := keeps hv k0
    replace kr := kr.up hv
    clear hv
    refine segS_batch 3 [0, 1, 2, 3, 4, 5, 6, 7, 8, 9, 10, 11] (by kernel_rfl) rfl (by kernel_rfl) (by kernel_rfl) (by kernel_rfl) ?_
    apply Exists.intro
    refine ⟨fun ι _ φ hφ => ?_, fun v1 hv => ?_⟩
    · have hg : w.heap.size < w4.heap.size := by have := hlr.out.1; omega
      have q := fun i => blk6 ((hφ.old i).keeps k0 hg)
      have q1 := fun i => (q i).2.1
      clear q
      repeat (refine pick_step rfl ?_; go_big_quiet_step ((first
        | (go_at_call 54; exact flowS_call hφ (hof.out _))
        | (go_at_call 78; exact flowS_call hφ (hinv.out _)))))
      exact pick_end
    replace hlr := Lib.hid (And.intro hlr.out.1 (Nat.le_trans hlr.out.2 hv.size))
    replace hb := below_next hb hb.size hv
    replace k0 := keeps hv k0
    replace kr := kr.up hv
    clear hv
    refine segS_one 12 _ (by decide) rfl (by kernel_rfl) ?_
    intro v2 K hv hK
    replace hlr := Lib.hid (And.intro hlr.out.1 (Nat.le_trans hlr.out.2 hv.size))
    replace hb := below_next hb hb.size hv
    replace k0 := keeps hv k0
    replace kr := kr.up hv
    clear hv
    replace hK := Lib.hid hK
    go_simp
    refine hK.out _ _ (HeldS.of_below ((Below.refl _ _).alloc (Nat.le_refl _) _)) ?_
    clear hK K
    replace hb := hb.alloc hb.size (.cells #[.int .u64 (lo 0), .int .u64 (hi 0)] 28)
    replace k0 := alloc_keeps (o := .cells #[.int .u64 (lo 0), .int .u64 (hi 0)] 28) k0
    replace kr := kr.alloc (.cells #[.int .u64 (lo 0), .int .u64 (hi 0)] 28)
    have kp : Holds (v2.alloc (.cells #[.int .u64 (lo 0), .int .u64 (hi 0)] 28)) v2.heap.size 0 := alloc_at rfl
    generalize v2.heap.size = p3 at *
    refine segS_one 13 _ (by decide) rfl (by kernel_rfl) ?_
    intro v3 K hv hK
    replace hb := below_next hb hb.size hv
    replace k0 := keeps hv k0
    replace kr := kr.up hv
    replace kp := kp.up hv
    clear hv
    replace hK := Lib.hid hK
    obtain ⟨t0, t1, t2, t3⟩ := blk2 kp
    go_simp
    refine hK.out _ _ (HeldS.set2 (by have := hlr.out; omega)) ?_
    clear hK K t0 t1 t2 t3
    replace hb := below_store2 hb (show w.heap.size ≤ p3 by have := hlr.out; omega) (u := .int .u64 (lo V)) (v := .int .u64 (hi V))
    replace k0 := store2_far (u := .int .u64 (lo V)) (v := .int .u64 (hi V)) k0 (show w.heap.size ≠ p3 by have := hlr.out; omega)
    replace kr := kr.far (u := .int .u64 (lo V)) (v := .int .u64 (hi V)) (show w.heap.size + 1 ≠ p3 by have := hlr.out; omega)
    replace kp := kp.set V
    refine segS_one 14 _ (by decide) rfl (by kernel_rfl) ?_
    intro v4 K hv hK
    replace hb := below_next hb hb.size hv
    replace k0 := keeps hv k0
    replace kr := kr.up hv
    replace kp := kp.up hv
    clear hv
    replace hK := Lib.hid hK
    go_simp
    refine hK.out _ _ (HeldS.refl _ _) ?_
    clear hK K
    refine segS_done rfl (by kernel_rfl) ?_
    intro v5 hv
    replace hb := below_next hb hb.size hv
    replace k0 := keeps hv k0
    replace kr := kr.up hv
    replace kp := kp.up hv
    clear hv
    go_wp2
    go_meet
    exact ⟨p3, rfl, rfl, by have := hlr.out; omega, hb, k0, kr, kp⟩
  clear c0 c1 c2 c3 c4 c5 hb k0 kr hC hI hJ hof hinv w1 w2 w3 w4
  obtain ⟨p3, rfl, rfl, hp3, hb, k0, kr, kp⟩ := hcut
  generalize V = p at *
  have H : Rn St w own #[.int .u8 k, .int .u8 f, .int .i64 b, .int .i64 l, .int .i64 W, .int .i64 c] [(p3, p), (w.heap.size + 1, 0)] s own wc := ⟨Moved.of_below hb, hF.below hs hb, k0, hF.new hs (Nat.le_refl _), fun q hq => by
    rcases List.mem_cons.1 hq with rfl | hq
    · exact ⟨by simp only; omega, kp, hF.new hs (by simp only; omega)⟩
    · obtain rfl := List.mem_singleton.1 hq
      exact ⟨Nat.lt_succ_self _, kr, hF.new hs (Nat.le_succ _)⟩⟩
  clear hb k0 kr kp
  generalize hpr : w.heap.size + 1 = pr at *
  have hne := Lib.hid (And.intro hpr hp3)
  clear hpr hp3 hs
  obtain ⟨c0, c1, c2, c3, c4, c5⟩ := blk6 H.k0
  go_upto_region 15 with (fail)
  clear c0 c1 c2 c3 c4 c5
  have hg0 : w.heap.size ≤ w.heap.size ∧ ¬ own w.heap.size := ⟨Nat.le_refl _, H.f0⟩
  have hga : pa ≤ w.heap.size ∧ ¬ own pa := ⟨by have := World.block_lt_of_cell? _ _ ha0; simp only at this; omega, hnp⟩
  have hb0 := (World.cell?_of_block (w := w) (a := ⟨pa, qo, none⟩) (H.mv.keep pa (World.block_lt_of_cell? _ _ ha0) hnp).1).trans ha0
  have hb1 := (World.cell?_of_block (w := w) (a := ⟨pa, qo + 1, none⟩) (H.mv.keep pa (World.block_lt_of_cell? _ _ ha0) hnp).1).trans ha1
  refine segS_start (gb := fun kk => kk ≤ w.heap.size ∧ ¬ own kk) 11 (by kernel_rfl) (by decide) ?_
  intro v0 hv
  replace H := H.up hF hv
  have d0 := (hv.cell (World.block_lt_of_cell? _ _ hb0)).trans hb0
  have d1 := (hv.cell (World.block_lt_of_cell? _ _ hb1)).trans hb1
  clear hv hb0 hb1 ha0 ha1
  refine segS_batch 5 [0, 1, 2, 3, 4, 5] (by kernel_rfl) rfl (by kernel_rfl) (by kernel_rfl) (by kernel_rfl) ?_
  apply Exists.intro
  refine ⟨fun ι _ φ hφ => ?_, fun v1 hv => ?_⟩
  · have q := fun i => blk6 ((hφ.old i).keeps H.k0 hg0)
    have q0 := fun i => (q i).1
    have q1 := fun i => (q i).2.1
    have q2 := fun i => (q i).2.2.1
    have q3 := fun i => (q i).2.2.2.1
    have q4 := fun i => (q i).2.2.2.2.1
    have q5 := fun i => (q i).2.2.2.2.2
    clear q
    have e0 := fun i => (World.cell?_of_block (w := v0) (a := ⟨pa, qo, none⟩) ((hφ.old i).block pa (World.block_lt_of_cell? _ _ d0) hga)).trans d0
    have e1 := fun i => (World.cell?_of_block (w := v0) (a := ⟨pa, qo + 1, none⟩) ((hφ.old i).block pa (World.block_lt_of_cell? _ _ d0) hga)).trans d1
    repeat (refine pick_step rfl ?_; go_big_quiet_step (fail))
    exact pick_end
  replace H := H.up hF hv
  clear hv d0 d1 hg0 hga
  refine segS_one 6 _ (by decide) rfl (by kernel_rfl) ?_
  intro v2 K hv hK
  replace H := H.up hF hv
  clear hv
  replace hK := Lib.hid hK
  go_simp
  refine (hcnt.out _ H.st H.mv).mono ?_
  rintro e v3 hh
  obtain ⟨r, c', s', ⟨rfl, own2, hm, hs2⟩, hpass⟩ := hh.pass
  clear hh hcnt
  replace hpass := Lib.hid hpass
  refine hK.out _ _ ⟨hm.os, hm.tape, hm.output, hm.size, fun kk hk hg => (hm.keep kk hk hg.2).1⟩ ?_
  clear hK K
  replace H := H.ask hm hs2
  clear hm hs2
  refine segS_batch 2 [7, 8] (by kernel_rfl) rfl (by kernel_rfl) (by kernel_rfl) (by kernel_rfl) ?_
  apply Exists.intro
  refine ⟨fun ι _ φ hφ => ?_, fun v8 hv => ?_⟩
  · repeat (refine pick_step rfl ?_; go_big_quiet_step (fail))
    exact pick_end
  replace H := H.up hF hv
  clear hv
  refine segS_one 9 _ (by decide) rfl (by kernel_rfl) ?_
  intro va K hv hK
  replace H := H.up hF hv
  clear hv
  obtain ⟨t0, t1, t2, t3⟩ := blk2 (H.at (p := pr) (z := 0) (by simp))
  replace hK := Lib.hid hK
  go_simp
  refine hK.out _ _ (HeldS.set2 (fun h => by have := hne.out.1; have := h.1; omega)) ?_
  clear hK K t0 t1 t2 t3
  have H' := H.set hF (mine' := [(pr, r)]) (p := pr) (z0 := 0) (z := r) (by simp) (by simp)
  clear H
  refine segS_one 10 _ (by decide) rfl (by kernel_rfl) ?_
  intro vb K hv hK
  have H := H'.up hF hv
  clear hv H'
  replace hK := Lib.hid hK
  go_simp
  refine hK.out _ _ (HeldS.refl _ _) ?_
  clear hK K
  refine segS_done rfl (by kernel_rfl) ?_
  intro vc hv
  have H9 := H.up hF hv
  clear hv H
  go_wp2
  obtain ⟨r0, r1, -, -⟩ := blk2 (H9.at (p := pr) (z := r) (by simp))
  exact bodyPost_ret (v := .tuple #[.agg #[.int .u64 (lo r), .int .u64 (hi r)], .int .i64 c']) (by simp [results, Tryz.results29, go_sem, r0, r1]) rfl (hpass.out _ _ _ _ ⟨rfl, H9.out⟩)
set_option maxRecDepth 20000 in
set_option maxHeartbeats 4000000 in
theorem run_chunks (hF : Asking F caps St step ans err can) (x : Ci) (h : x.Good) (hk : 3 ≤ x.k) (xs js : List Int) (A B : Option Addr) (N cp n cq : Nat) (sh p : Int) (hp : PartIs x.f sh p) (hl : xs.length = N) (hN : N = x.inN) (hcp : N ≤ cp) (hn : n = x.jointN) (hjl : js.length = n) (hx : ElemsOK xs) (hj : ElemsOK js) (s : σ) (own : Nat → Prop) (w : World) (hs : St s own w) (hA : ElemsAt w A xs) (hno : ∀ a, A = some a → ¬ own a.block)
    (hB : ElemsAt w B js) (hnb : ∀ a, B = some a → ¬ own a.block) (q : Nat → List Int) (hq : ∀ k, q k = chunkQ x.f p xs js x.c.toNat k) (hcan : ∀ i, i < x.callsN → can (stN step q s i) (q i)) :
    Calls Tryz.prog 29 #[cvl x, .slice A N cp, .slice B n cq, .int .i64 sh, .func (.func F) #[] caps] w (Ran St step err own q x.callsN (add x.f (totC x.f (fun k => ans (stN step q s k) (q k)) x.callsN) (weightF x xs (js.getD (n - 1) 0) p)) s w) := by
  have hin := h.fits.in_le
  have hcn := h.calls
  have hM := M_lt x.f
  have hpb := hp.p0
  have hnc : x.callsN ≤ n := by rw [hn]; unfold Ci.jointN; rw [if_neg (by omega), if_neg (by omega)]; split <;> omega
  have hn1' : 1 ≤ n := by
    have h1 : 1 ≤ x.callsN := by
      unfold Ci.callsN
      rw [if_neg (by omega), if_neg (by omega)]
      have hc := h.fits.c hk
      have hN1 : 0 < x.inN := by
        have := h.fits.l hk
        have h5 := h.fits.k5
        unfold Ci.inN
        rw [if_neg (by omega), if_neg (by omega)]
        split
        · have hb := h.fits.b (by omega)
          exact Nat.mul_pos (by omega) (by omega)
        · split <;> omega
      exact (pieces_lt x.inN 0 (by omega)).1 (by omega)
    omega
  have hnm : n ≤ maxLen := by
    rw [hn]
    unfold Ci.jointN maxLen
    split
    · omega
    · split
      · omega
      · split <;> omega
  have hcnt := fun w1 hs (hm : Moved own own w w1) => runChunks_any hF x h hk xs js A B N cp n cq hl hN hcp hx hjl hnc hj p ⟨hpb.1, by omega⟩ s own w1 hs (hA.moved hno hm) hno (hB.moved hnb hm) hnb q hq hcan
  clear hcan
  obtain ⟨Wt, hWt⟩ : ∃ Wt, weightF x xs (js.getD (n - 1) 0) p = Wt := ⟨_, rfl⟩
  have hWb := weightF_bound x xs (js.getD (n - 1) 0) p
  have hwt : ∀ w1 own2, Moved own own2 w w1 → Calls Tryz.prog 83 #[cvl x, .slice A N cp, .slice B n cq, .agg #[.int .u64 (lo p), .int .u64 (hi p)]] w1 (ElOut Wt w1) := fun w1 own2 hm => by
    rw [← hWt]
    by_cases h4 : x.k = 4
    · exact weight_hist x h h4 xs js A B N cp n cq p hl (by unfold maxLen; omega) hx hjl hn1' hnm hj ⟨hpb.1, by omega⟩ w1 (hA.moved hno hm) (hB.moved hnb hm)
    · by_cases h5 : x.k = 5
      · exact weight_multi x h h5 xs js A B N cp n cq p hl hN hcp hx hjl hn1' hnm hj ⟨hpb.1, by omega⟩ w1 (hA.moved hno hm) (hB.moved hnb hm)
      · have e : weightF x xs (js.getD (n - 1) 0) p = 0 := by unfold weightF; rw [if_neg h4, if_neg h5]
        rw [e]
        exact weight_rest x h4 h5 xs A B N cp n cq p w1
  rw [hWt] at hWb ⊢
  clear hWt
  have hTb := totC_ok x.f (fun k => ans (stN step q s k) (q k)) x.callsN
  generalize totC x.f (fun k => ans (stN step q s k) (q k)) x.callsN = T at *
  have hadd := ((fb_of h.f).hadd T Wt hTb.1 hTb.2 hWb.1 (by omega)).2
  generalize add x.f T Wt = Z at *
  generalize x.callsN = nc at *
  unfold ElOut at hwt
  have hnf := is_func F caps
  have hof := (fb_of h.f).hof sh (by have := hp.one; omega) (by have := hp.top; omega)
  have hinv := hp.inv
  have zm : max (0 : Int) sh = sh := by have := hp.one; omega
  have zu : IntKind.u64.wrap sh = sh := by rw [IntKind.wrap_u64]; have := hp.one; have := hp.top; omega
  obtain ⟨V, hV⟩ : ∃ V : Int, V = p := ⟨p, rfl⟩
  obtain ⟨E, hE⟩ : ∃ E : Int, E = 0 := ⟨0, rfl⟩
  rw [← hE, ← hV] at hinv
  have hE1 : (E != 0) = false := by rw [hE]; rfl
  replace hE := Lib.hid hE
  have hz := h.code
  have hJ := fun w => joint_any x h w
  obtain ⟨k, f, b, l, W, c⟩ := x
  have hC := fun w => ccheck_any k f b l W c w
  have hI := fun w => cin_any k f b l W c h.fits w
  rw [hz] at hC
  unfold cvl at *
  rw [← hN] at hI
  rw [← hn] at hJ
  have b1 : ((N : Int) != (N : Int)) = false := by simp
  have b2 : ((n : Int) != (n : Int)) = false := by simp
  replace hC := Lib.hid hC
  replace hI := Lib.hid hI
  replace hJ := Lib.hid hJ
  simp only at hk hof hinv hcnt hadd hwt
  subst hV
  have hk1 : (k == 1) = false := by simp; omega
  have hk2 : (k == 2) = false := by simp; omega
  replace hcnt := Lib.hid hcnt
  replace hwt := Lib.hid hwt
  replace hadd := Lib.hid hadd
  clear h hz hN hn hA hx hl hno hB hj hjl hnb hq hp hk hn1' hin hcn hM hpb hnc hnm hWb hTb hcp
  replace hof := Lib.hid hof
  replace hinv := Lib.hid hinv
  go_enter Tryz.func29, Tryz.ntmps29
  go_upto_region 1 with (fail)
  refine name_wp (fun w1 => Below w.heap.size w w1 ∧ w1.heap[w.heap.size]? = some (.cells #[.int .u8 k, .int .u8 f, .int .i64 b, .int .i64 l, .int .i64 W, .int .i64 c] 33 (0, 0)) ∧ Holds w1 (w.heap.size + 1) 0) ⟨((Below.refl _ _).alloc (Nat.le_refl _) _).alloc (by simp) _, alloc_keeps (alloc_at rfl), alloc_at (by simp)⟩ ?_
  rintro w1 ⟨hb, k0, kr⟩
  obtain ⟨c0, c1, c2, c3, c4, c5⟩ := blk6 k0
  go_wp2_with fail
  refine call_then (hC.out _) ?_
  intro w2 hv
  replace hb := below_next hb hb.size hv
  replace k0 := keeps hv k0
  replace kr := kr.up hv
  clear hv c0 c1 c2 c3 c4 c5
  obtain ⟨c0, c1, c2, c3, c4, c5⟩ := blk6 k0
  go_wp2_with fail
  refine call_then (hI.out _) ?_
  intro w3 hv
  replace hb := below_next hb hb.size hv
  replace k0 := keeps hv k0
  replace kr := kr.up hv
  clear hv c0 c1 c2 c3 c4 c5
  obtain ⟨c0, c1, c2, c3, c4, c5⟩ := blk6 k0
  go_wp2_with fail
  refine call_then (hJ.out _) ?_
  intro w4 hv
  replace hb := below_next hb hb.size hv
  replace k0 := keeps hv k0
  replace kr := kr.up hv
  clear hv c0 c1 c2 c3 c4 c5
  obtain ⟨c0, c1, c2, c3, c4, c5⟩ := blk6 k0
  go_upto_region 8 with (fail)
  go_cut [13, 14] (fun v y w' => ∃ p3 : Nat, v = .pointer (some ⟨p3, 0, none⟩) ∧ y = .int .i64 E ∧ w.heap.size + 1 < p3 ∧ Below w.heap.size w w' ∧ w'.heap[w.heap.size]? = some (.cells #[.int .u8 k, .int .u8 f, .int .i64 b, .int .i64 l, .int .i64 W, .int .i64 c] 33 (0, 0)) ∧ Holds w' (w.heap.size + 1) 0 ∧ Holds w' p3 V)
  case first =>
    clear c0 c1 c2 c3 c4 c5 hC hI hJ
    have hlr := Lib.hid (lt_of_get kr)
    refine segS_start (gb := fun k => k < w4.heap.size) 15 (by kernel_rfl) (by decide) ?_
    intro v0 hv
    replace hlr := Lib.hid (And.intro hlr.out hv.size)
    replace hb := below_next hb hb.size hv
    replace k0 := keeps hv k0
    replace kr := kr.up hv
    clear hv
    refine segS_batch 3 [0, 1, 2, 3, 4, 5, 6, 7, 8, 9, 10, 11] (by kernel_rfl) rfl (by kernel_rfl) (by kernel_rfl) (by kernel_rfl) ?_
    apply Exists.intro
    refine ⟨fun ι _ φ hφ => ?_, fun v1 hv => ?_⟩
    · have hg : w.heap.size < w4.heap.size := by have := hlr.out.1; omega
      have q := fun i => blk6 ((hφ.old i).keeps k0 hg)
      have q1 := fun i => (q i).2.1
      clear q
      repeat (refine pick_step rfl ?_; go_big_quiet_step ((first
        | (go_at_call 54; exact flowS_call hφ (hof.out _))
        | (go_at_call 78; exact flowS_call hφ (hinv.out _)))))
      exact pick_end
    replace hlr := Lib.hid (And.intro hlr.out.1 (Nat.le_trans hlr.out.2 hv.size))
    replace hb := below_next hb hb.size hv
    replace k0 := keeps hv k0
    replace kr := kr.up hv
    clear hv
    refine segS_one 12 _ (by decide) rfl (by kernel_rfl) ?_
    intro v2 K hv hK
    replace hlr := Lib.hid (And.intro hlr.out.1 (Nat.le_trans hlr.out.2 hv.size))
    replace hb := below_next hb hb.size hv
    replace k0 := keeps hv k0
    replace kr := kr.up hv
    clear hv
    replace hK := Lib.hid hK
    go_simp
    refine hK.out _ _ (HeldS.of_below ((Below.refl _ _).alloc (Nat.le_refl _) _)) ?_
    clear hK K
    replace hb := hb.alloc hb.size (.cells #[.int .u64 (lo 0), .int .u64 (hi 0)] 28)
    replace k0 := alloc_keeps (o := .cells #[.int .u64 (lo 0), .int .u64 (hi 0)] 28) k0
    replace kr := kr.alloc (.cells #[.int .u64 (lo 0), .int .u64 (hi 0)] 28)
    have kp : Holds (v2.alloc (.cells #[.int .u64 (lo 0), .int .u64 (hi 0)] 28)) v2.heap.size 0 := alloc_at rfl
    generalize v2.heap.size = p3 at *
    refine segS_one 13 _ (by decide) rfl (by kernel_rfl) ?_
    intro v3 K hv hK
    replace hb := below_next hb hb.size hv
    replace k0 := keeps hv k0
    replace kr := kr.up hv
    replace kp := kp.up hv
    clear hv
    replace hK := Lib.hid hK
    obtain ⟨t0, t1, t2, t3⟩ := blk2 kp
    go_simp
    refine hK.out _ _ (HeldS.set2 (by have := hlr.out; omega)) ?_
    clear hK K t0 t1 t2 t3
    replace hb := below_store2 hb (show w.heap.size ≤ p3 by have := hlr.out; omega) (u := .int .u64 (lo V)) (v := .int .u64 (hi V))
    replace k0 := store2_far (u := .int .u64 (lo V)) (v := .int .u64 (hi V)) k0 (show w.heap.size ≠ p3 by have := hlr.out; omega)
    replace kr := kr.far (u := .int .u64 (lo V)) (v := .int .u64 (hi V)) (show w.heap.size + 1 ≠ p3 by have := hlr.out; omega)
    replace kp := kp.set V
    refine segS_one 14 _ (by decide) rfl (by kernel_rfl) ?_
    intro v4 K hv hK
    replace hb := below_next hb hb.size hv
    replace k0 := keeps hv k0
    replace kr := kr.up hv
    replace kp := kp.up hv
    clear hv
    replace hK := Lib.hid hK
    go_simp
    refine hK.out _ _ (HeldS.refl _ _) ?_
    clear hK K
    refine segS_done rfl (by kernel_rfl) ?_
    intro v5 hv
    replace hb := below_next hb hb.size hv
    replace k0 := keeps hv k0
    replace kr := kr.up hv
    replace kp := kp.up hv
    clear hv
    go_wp2
    go_meet
    exact ⟨p3, rfl, rfl, by have := hlr.out; omega, hb, k0, kr, kp⟩
  clear c0 c1 c2 c3 c4 c5 hb k0 kr hC hI hJ hof hinv w1 w2 w3 w4
  obtain ⟨p3, rfl, rfl, hp3, hb, k0, kr, kp⟩ := hcut
  generalize V = p at *
  have H : Rn St w own #[.int .u8 k, .int .u8 f, .int .i64 b, .int .i64 l, .int .i64 W, .int .i64 c] [(p3, p), (w.heap.size + 1, 0)] s own wc := ⟨Moved.of_below hb, hF.below hs hb, k0, hF.new hs (Nat.le_refl _), fun q hq => by
    rcases List.mem_cons.1 hq with rfl | hq
    · exact ⟨by simp only; omega, kp, hF.new hs (by simp only; omega)⟩
    · obtain rfl := List.mem_singleton.1 hq
      exact ⟨Nat.lt_succ_self _, kr, hF.new hs (Nat.le_succ _)⟩⟩
  clear hb k0 kr kp
  generalize hpr : w.heap.size + 1 = pr at *
  have hne := Lib.hid (And.intro hpr hp3)
  clear hpr hp3 hs
  obtain ⟨c0, c1, c2, c3, c4, c5⟩ := blk6 H.k0
  obtain ⟨t0, t1, -, -⟩ := blk2 (H.at (p := p3) (z := p) (by simp))
  go_wp2_with fail
  refine (hcnt.out _ H.st H.mv).mono ?_
  rintro e w2 hh
  clear c0 c1 c2 c3 c4 c5 t0 t1 hcnt
  rcases hh with ⟨j, h1, h2, h3, rfl, own2, hm, hs2⟩ | ⟨h1, rfl, own2, hm, hs2⟩
  · have b1 : (err (stN step q s j) (q j) != 0) = true := by simpa using h2
    replace H := (H.ask hm hs2).less (mine' := [(pr, 0)]) (by simp)
    have hpass := Lib.hid (fun w0 e2 w2 (h : AskOut St own 0 (err (stN step q s j) (q j)) (stN step q s (j + 1)) w0 e2 w2) => (Or.inl ⟨j, h1, h2, h3, h⟩ : Ran St step err own q nc Z s w0 e2 w2))
    clear hm hs2 h1 h2 h3 hwt hadd
    generalize err (stN step q s j) (q j) = er at *
    go_upto_region 17 with (fail)
    refine name_wp (fun w3 => Rn St w own #[.int .u8 k, .int .u8 f, .int .i64 b, .int .i64 l, .int .i64 W, .int .i64 c] [(pr, 0)] (stN step q s (j + 1)) own2 w3) ((H.add hF 0 rfl).less (by simp)) ?_
    clear H
    generalize w2.heap.size = p6 at *
    intro w3 H
    obtain ⟨t0, t1, t2, t3⟩ := blk2 (H.at (p := pr) (z := 0) (by simp))
    have H9 := H.set hF (mine' := [(pr, 0)]) (p := pr) (z0 := 0) (z := 0) (by simp) (by simp)
    go_wp2
    obtain ⟨r0, r1, -, -⟩ := blk2 (H9.at (p := pr) (z := 0) (by simp))
    rw [show lo 0 = 0 from rfl, show hi 0 = 0 from rfl] at r0 r1
    exact bodyPost_ret (v := .tuple #[.agg #[.int .u64 0, .int .u64 0], .int .i64 er]) (by simp [results, Tryz.results29, go_sem, r0, r1]) rfl (hpass.out _ _ _ ⟨rfl, H9.out⟩)
  · replace H := H.ask hm hs2
    clear hm hs2
    go_upto_region 17 with (fail)
    refine name_wp (fun w3 => Rn St w own #[.int .u8 k, .int .u8 f, .int .i64 b, .int .i64 l, .int .i64 W, .int .i64 c] [(w2.heap.size, T), (p3, p), (pr, 0)] (stN step q s nc) own2 w3) (H.add hF T rfl) ?_
    clear H
    generalize w2.heap.size = p6 at *
    intro w3 H
    go_upto_region 19 with (fail)
    refine wp_region_flow1 9 (by kernel_rfl) (by kernel_rfl) (by kernel_rfl) ?_
    apply Exists.intro
    refine ⟨fun ι _ φ hφ => ?_, fun w6 hv => ?_⟩
    · have q := fun i => blk6 (keeps (hφ.old i) H.k0)
      have q0 := fun i => (q i).1
      have q1 := fun i => (q i).2.1
      have q2 := fun i => (q i).2.2.1
      have q3 := fun i => (q i).2.2.2.1
      have q4 := fun i => (q i).2.2.2.2.1
      have q5 := fun i => (q i).2.2.2.2.2
      clear q
      obtain ⟨e0, e1⟩ := hφ.two (H.at (p := p3) (z := p) (by simp))
      obtain ⟨e2, e3⟩ := hφ.two (H.at (p := p6) (z := T) (by simp))
      have hw2 := Lib.hid (fun i => hwt.out (φ i) own2 (H.mv.below (hφ.old i)))
      simp only [List.take_succ_cons, List.take_zero]
      repeat (go_big_quiet_step ((first
        | (go_at_call 83; exact flow_call hφ (hw2.out _))
        | (go_at_call 82; exact flow_call hφ (hadd.out _)))))
      exact wpQuiet_nil rfl
    replace H := (H.up hF hv).less (mine' := [(pr, 0)]) (by simp)
    clear hv
    simp only [List.drop_succ_cons, List.drop_zero]
    obtain ⟨t0, t1, t2, t3⟩ := blk2 (H.at (p := pr) (z := 0) (by simp))
    have H9 := H.set hF (mine' := [(pr, Z)]) (p := pr) (z0 := 0) (z := Z) (by simp) (by simp)
    go_wp2
    obtain ⟨r0, r1, -, -⟩ := blk2 (H9.at (p := pr) (z := Z) (by simp))
    exact bodyPost_ret (v := .tuple #[.agg #[.int .u64 (lo Z), .int .u64 (hi Z)], .int .i64 0]) (by simp [results, Tryz.results29, go_sem, r0, r1]) rfl (Or.inr ⟨h1, rfl, H9.out⟩)
end
end Go.Proofs.YtebgfelbffgnbaaGreatDoor

/-
  Run of any kind; an append to a row that is full; one that always answers the same error.
-/
namespace Go.Proofs.YtebgfelbffgnbaaGreatDoor
open Go.RowKit Flow F
set_option linter.unusedVariables false
set_option linter.unusedSimpArgs false
attribute [local go_sem] eql_elem

section
variable {F : FuncId} {caps : Array Value} {σ : Type} {St : σ → (Nat → Prop) → World → Prop} {step : σ → List Int → σ} {ans err : σ → List Int → Int} {can : σ → List Int → Prop}
/-- Run, of any kind. -/
theorem run_ok (hF : Asking F caps St step ans err can) (x : Ci) (h : x.Good) (xs js : List Int) (A B : Option Addr) (N cp n cq : Nat) (sh p : Int) (hp : PartIs x.f sh p) (hl : xs.length = N) (hN : N = x.inN) (hcp : N ≤ cp) (hn : n = x.jointN) (hjl : js.length = n) (hx : ElemsOK xs) (hj : ElemsOK js) (s : σ) (own : Nat → Prop) (w : World) (hs : St s own w) (hA : ElemsAt w A xs) (hno : ∀ a, A = some a → ¬ own a.block)
    (hB : ElemsAt w B js) (hnb : ∀ a, B = some a → ¬ own a.block) (hcan : ∀ i, i < x.callsN → can (stN step (askQ x xs js p) s i) (askQ x xs js p i)) :
    Calls Tryz.prog 29 #[cvl x, .slice A N cp, .slice B n cq, .int .i64 sh, .func (.func F) #[] caps] w (Ran St step err own (askQ x xs js p) x.callsN (runF x xs js p (fun k => ans (stN step (askQ x xs js p) s k) (askQ x xs js p k))) s w) := by
  have k1 := h.fits.k1
  by_cases h1 : x.k = 1
  · have e1 : x.callsN = 1 := by unfold Ci.callsN; rw [if_pos h1]
    have e2 : ∀ a, runF x xs js p a = sub x.f (a 0) (xs.getD 0 0) := fun a => by unfold runF; rw [if_pos h1]
    rw [e1, e2]
    exact run_count hF x h h1 xs js A B N cp n cq sh p hp hl hN hn hx s own w hs hA hno _ (by unfold askQ; rw [if_pos h1]) (by have h0 := hcan 0 (by omega); rw [show askQ x xs js p 0 = [xs.getD 0 0, xs.getD 0 0] by unfold askQ; rw [if_pos h1]] at h0; exact h0)
  · by_cases h2 : x.k = 2
    · have hb := h.fits.b (.inl h2)
      have e1 : x.callsN = N := by rw [hN]; unfold Ci.callsN Ci.inN; rw [if_neg h1, if_pos h2, if_neg h1, if_pos h2]
      have e2 : ∀ a, runF x xs js p a = totS x.f (js.getD 0 0) a N := fun a => by unfold runF; rw [if_neg h1, if_pos h2, e1]
      rw [e1, e2]
      exact run_sum hF x h h2 xs js A B N cp n cq sh p hp hl hN hn hjl hx hj s own w hs hA hno hB hnb _ (fun k => by unfold askQ; rw [if_neg h1, if_pos h2]) (fun i hi => hcan i (by rw [e1]; exact hi))
    · have e2 : ∀ a, runF x xs js p a = add x.f (totC x.f a x.callsN) (weightF x xs (js.getD (n - 1) 0) p) := fun a => by unfold runF; rw [if_neg h1, if_neg h2, hn]
      rw [e2]
      exact run_chunks hF x h (by omega) xs js A B N cp n cq sh p hp hl hN hcp hn hjl hx hj s own w hs hA hno hB hnb _ (fun k => by unfold askQ; rw [if_neg h1, if_neg h2]) hcan
end
/-- A variable of a number, and nothing else, is its own. -/
def ErrSt (pc : Nat) (code : Int) (_ : Unit) (own : Nat → Prop) (w : World) : Prop := own = (fun k => k = pc) ∧ w.heap[pc]? = some (.cells #[.int .i64 code] 3 (0, 0))
end Go.Proofs.YtebgfelbffgnbaaGreatDoor
