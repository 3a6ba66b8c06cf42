import Derived.Test.YtebgfelbffgnbaaGreatDoorDE
import Derived.Test.YtebgfelbffgnbaaGreatDoorBQ
/-
  What is said chunk by chunk.
-/
namespace Go.Proofs.YtebgfelbffgnbaaGreatDoor
open Go.RowKit Flow F
set_option linter.unusedVariables false
set_option linter.unusedSimpArgs false
attribute [local go_sem] eql_elem

theorem HeldS.set2 {g : Nat → Prop} {w : World} {p i j : Nat} {u v : Value} (hp : ¬ g p) : HeldS g w ((w.setCell ⟨p, i, none⟩ u).setCell ⟨p, j, none⟩ v) :=
  ⟨rfl, rfl, rfl, by simp [World.setCell], fun k hk hg => by
    have hne : k ≠ p := fun e => hp (e ▸ hg)
    exact (Below.heap_setCell _ _ _ _ hne).trans (Below.heap_setCell _ _ _ _ hne)⟩
def totC (f : Int) (a : Nat → Int) : Nat → Int
  | 0 => 0
  | k + 1 => add f (totC f a k) (a k)
theorem totC_ok (f : Int) (a : Nat → Int) : ∀ k, 0 ≤ totC f a k ∧ totC f a k < 340282366920938463463374607431768211456
  | 0 => by simp [totC]
  | k + 1 => by have := add_bound f (totC f a k) (a k); have := M_lt f; unfold totC; omega
/-- What is asked of chunk number so. -/
def chunkQ (f p : Int) (xs js : List Int) (C k : Nat) : List Int := prL f (js.getD k 0) p ((xs.drop (k * C)).take C) (2 * C)
theorem prL_ok (f r p : Int) (xs : List Int) (D : Nat) : ElemsOK (prL f r p xs D) := fun y hy => by
  have hM := M_lt f
  unfold prL rangeL at hy
  rcases List.mem_append.1 hy with h | h
  · obtain ⟨j, -, rfl⟩ := List.mem_map.1 h
    have := prF_bound f r p xs j
    omega
  · rw [List.eq_of_mem_replicate h]
    omega
section
variable {F : FuncId} {caps : Array Value} {σ : Type} {St : σ → (Nat → Prop) → World → Prop} {step : σ → List Int → σ} {ans err : σ → List Int → Int} {can : σ → List Int → Prop}
set_option maxRecDepth 20000 in
set_option maxHeartbeats 4000000 in
theorem runChunks_any (hF : Asking F caps St step ans err can) (x : Ci) (h : x.Good) (h3 : 3 ≤ x.k) (xs js : List Int) (A B : Option Addr) (N cp n cq : Nat) (hl : xs.length = N) (hN : N = x.inN) (hcp : N ≤ cp) (hx : ElemsOK xs) (hjl : js.length = n) (hn : x.callsN ≤ n) (hj : ElemsOK js)
    (p : Int) (hp0 : 0 ≤ p ∧ p < 340282366920938463463374607431768211456) (s : σ) (own : Nat → Prop) (w : World) (hs : St s own w) (hA : ElemsAt w A xs) (hno : ∀ a, A = some a → ¬ own a.block) (hB : ElemsAt w B js) (hnb : ∀ a, B = some a → ¬ own a.block)
    (q : Nat → List Int) (hq : ∀ k, q k = chunkQ x.f p xs js x.c.toNat k) (hcan : ∀ i, i < x.callsN → can (stN step q s i) (q i)) :
    Calls Tryz.prog 81 #[cvl x, .slice A N cp, .slice B n cq, .agg #[.int .u64 (lo p), .int .u64 (hi p)], .func (.func F) #[] caps] w (Ran St step err own q x.callsN (totC x.f (fun k => ans (stN step q s k) (q k)) x.callsN) s w) := by
  have fb := fb_of h.f
  have hadd := fb.hadd
  have hc16 := h.fits.c h3
  obtain ⟨C, hC⟩ := Int.eq_ofNat_of_zero_le (show 0 ≤ x.c by omega)
  rw [hC] at hc16
  have hC1 : 1 ≤ C := by omega
  have hC16 : C ≤ 16 := by omega
  have hin := h.fits.in_le
  rw [← hN] at hin
  have hck : ∀ k, k < x.callsN → k * C < N := fun k hk => by
    unfold Ci.callsN at hk
    rw [if_neg (by omega), if_neg (by omega), hC, Int.toNat_natCast, ← hN] at hk
    exact (pieces_lt N k (by omega)).2 hk
  have hle := calls_le_in h.fits
  rw [← hN] at hle
  have hprs := fun (k : Nat) (hk : k < x.callsN) D c w (hA : ElemsAt w D ((xs.drop (k * C)).take C)) => pairs_any x h ((xs.drop (k * C)).take C) D (min C (N - k * C)) c (js.getD k 0) p (by rw [List.length_take, List.length_drop, hl]) (by rw [hC]; omega) (by omega) (fun y hy => hx y (List.mem_of_mem_drop (List.mem_of_mem_take hy))) (hj.at_ (by omega)) hp0 w hA
  rw [hC, Int.toNat_natCast] at hprs hq
  have hcalls := fun w => ccalls_any x.k x.f x.b x.l x.w x.c h.fits w
  have hql : ∀ k, k < x.callsN → (q k).length = 2 * C := fun k hk => by rw [hq]; exact prL_length (by rw [List.length_take]; omega)
  have hpq : ∀ k, prL x.f (js.getD k 0) p ((xs.drop (k * C)).take C) (2 * C) = q k := fun k => (hq k).symm
  simp only [hpq] at hprs
  obtain ⟨n1, hn1⟩ : ∃ n1, x.callsN = n1 := ⟨_, rfl⟩
  obtain ⟨a, ha⟩ : ∃ a, (fun k => ans (stN step q s k) (q k)) = a := ⟨_, rfl⟩
  have hak : ∀ k, ans (stN step q s k) (q k) = a k := fun k => by rw [← ha]
  have hab : ∀ k, 0 ≤ a k ∧ a k < 340282366920938463463374607431768211456 := fun k => by rw [← hak]; exact hF.bound _ _
  have hTb := totC_ok x.f a
  obtain ⟨T, hT⟩ : ∃ T, totC x.f a = T := ⟨_, rfl⟩
  have hT0 : T 0 = 0 := by rw [← hT]; rfl
  have hT1 : ∀ j, add x.f (T j) (a j) = T (j + 1) := fun j => by rw [← hT]; rfl
  rw [ha, hT]
  rw [hT] at hTb
  clear hT ha
  obtain ⟨S, hS⟩ : ∃ S, stN step q s = S := ⟨_, rfl⟩
  have hS0 : S 0 = s := by rw [← hS]; rfl
  have hS1 : ∀ j, step (S j) (q j) = S (j + 1) := fun j => by rw [← hS]; rfl
  unfold Ran
  rw [hS] at hak hcan
  rw [hS]
  clear hS
  obtain ⟨er, her⟩ : ∃ er : Nat → Int, ∀ k, err (S k) (q k) = er k := ⟨_, fun _ => rfl⟩
  simp only [her]
  have hask := fun j (hj : j < x.callsN) own' g w (hs : St (S j) own' w) (hg : Row w g (q j)) (hn : ¬ own' g) => ask_any hF (S j) own' g (q j) (2 * C) (hcan j hj) (hql j hj) (by rw [← hpq]; exact prL_ok _ _ _ _ _) w hs hg hn
  simp only [hak, her, hS1] at hask
  rw [hn1] at hle hck hprs hcalls hask hn ⊢
  clear hql hpq hq hcan
  obtain ⟨k, f, b, l, W, c⟩ := x
  simp only at hadd hT1 hC hprs hcalls
  subst hC
  replace hask := Lib.hid hask
  replace hadd := Lib.hid hadd
  replace hT1 := Lib.hid hT1
  replace hTb := Lib.hid hTb
  replace hab := Lib.hid hab
  replace hS1 := Lib.hid hS1
  replace hA := Lib.hid hA
  replace hl := Lib.hid hl
  replace hx := Lib.hid hx
  replace hno := Lib.hid hno
  replace hB := Lib.hid hB
  replace hjl := Lib.hid hjl
  replace hj := Lib.hid hj
  replace hnb := Lib.hid hnb
  replace hprs := Lib.hid hprs
  replace hcalls := Lib.hid hcalls
  replace hck := Lib.hid hck
  unfold cvl RowOut at *
  clear h fb her hN h3 hn1 hc16
  have hM := M_lt f
  go_enter Tryz.func81, Tryz.ntmps81
  go_upto_region 2 with (fail)
  refine name_wp (fun w1 => Rn St w own #[.int .u8 k, .int .u8 f, .int .i64 b, .int .i64 l, .int .i64 W, .int .i64 (C : Int)] [(w.heap.size + 1 + 1 + 1, T 0), (w.heap.size + 1 + 1, 0), (w.heap.size + 1, p)] (S 0) own w1) (by
    rw [hT0, hS0]
    exact (((Rn.begin hF w hs #[.int .u8 k, .int .u8 f, .int .i64 b, .int .i64 l, .int .i64 W, .int .i64 (C : Int)]).add hF p (p := w.heap.size + 1) (by simp)).add hF 0 (p := w.heap.size + 1 + 1) (by simp)).add hF 0 (p := w.heap.size + 1 + 1 + 1) (by simp)) ?_
  intro w1 H
  generalize hp3 : w.heap.size + 1 + 1 + 1 = p3 at *
  generalize hp2 : w.heap.size + 1 + 1 = p2 at *
  generalize hp1 : w.heap.size + 1 = p1 at *
  have n21 : p2 ≠ p1 := by omega
  have n31 : p3 ≠ p1 := by omega
  have n32 : p3 ≠ p2 := by omega
  have hne := Lib.hid (And.intro n21 (And.intro n31 n32))
  clear hp1 hp2 hp3 hs hT0 hS0 n21 n31 n32
  obtain ⟨c0, c1, c2, c3, c4, c5⟩ := blk6 H.k0
  go_wp2_with fail
  refine call_then (hcalls.out _) ?_
  intro w2 hv
  replace H := H.up hF hv
  clear hv hcalls c0 c1 c2 c3 c4 c5
  go_wp2
  go_loopw [19] (fun i wr => ∃ (j : Nat) (own' : Nat → Prop), j ≤ n1 ∧ i = .int .i64 (j : Int) ∧ Rn St w own #[.int .u8 k, .int .u8 f, .int .i64 b, .int .i64 l, .int .i64 W, .int .i64 (C : Int)] [(p3, T j), (p2, 0), (p1, p)] (S j) own' wr ∧ Hid (∀ i, i < j → er i = 0)) (fun i _ => n1 - (intOf i).toNat)
  case atStart => exact ⟨0, own, Nat.zero_le _, rfl, H, Lib.hid (fun i hi => absurd hi (Nat.not_lt_zero _))⟩
  case round =>
    clear H
    obtain ⟨j, own', hj, rfl, H, hz0⟩ := hrel
    by_cases hlt : j < n1
    · have j1 : (j : Int) < (n1 : Int) := by omega
      have j0 : (0 : Int) ≤ (j : Int) := by omega
      have j2 : (j : Int) < (n : Int) := by omega
      obtain ⟨pa, qo, rfl, -, -⟩ := (hA.out.moved hno.out H.mv) 0 (by rw [hl.out]; omega)
      obtain ⟨pb, po, rfl, hc0, hc1⟩ := (hB.out.moved hnb.out H.mv) j (by rw [hjl.out]; omega)
      have hPN := hck.out j hlt
      have hpj := hprs.out j hlt
      have haj := Lib.hid (hask.out j hlt)
      generalize js.getD j 0 = z at *
      obtain ⟨P, hP⟩ : ∃ P, j * C = P := ⟨_, rfl⟩
      obtain ⟨P1, hP1⟩ : ∃ P1, P + C = P1 := ⟨_, rfl⟩
      have hPi : (j : Int) * (C : Int) = (P : Int) := by rw [← hP, Int.natCast_mul]
      have hP1i : ((j : Int) + 1) * (C : Int) = (P1 : Int) := by rw [Int.add_mul, hPi]; omega
      rw [hP] at hPN hpj
      have zP : IntKind.i64.wrap (P : Int) = (P : Int) := wrap_i rfl (by omega)
      have zP1 : IntKind.i64.wrap (P1 : Int) = (P1 : Int) := wrap_i rfl (by omega)
      obtain ⟨P2, hP2⟩ : ∃ P2, min P1 N = P2 := ⟨_, rfl⟩
      have zm : min (P1 : Int) (N : Int) = (P2 : Int) := by omega
      have a0 : (0 : Int) ≤ (P : Int) := by omega
      have a1 : (P : Int) ≤ (P2 : Int) := by omega
      have a2 : (P2 : Int) ≤ (cp : Int) := by omega
      have a3 : ¬ cp = P := by omega
      have a4 : ¬ P = cp := by omega
      rw [show min C (N - P) = P2 - P by omega] at hpj
      have hch := Lib.hid (fun own2 w2 (hm : Moved own own2 w w2) => (((hA.out.moved hno.out hm).drop P).take C : ElemsAt w2 _ _))
      replace hpj := Lib.hid (fun c w hA => hpj (some ⟨pa, qo + P * 2, none⟩) c w hA)
      replace hP := Lib.hid hP
      replace hP1 := Lib.hid hP1
      replace hP2 := Lib.hid hP2
      clear hPN
      obtain ⟨c0, c1, c2, c3, c4, c5⟩ := blk6 H.k0
      go_upto_region 6 with (fail)
      clear c0 c1 c2 c3 c4 c5 zP zP1 zm a0 a1 a2 a3 a4 hPi hP1i hP hP1 hP2
      go_cut [15, 16] (fun v y w' => ∃ (p6 : Nat) (own3 : Nat → Prop), v = .pointer (some ⟨p6, 0, none⟩) ∧ y = .int .i64 (er j) ∧ Rn St w own #[.int .u8 k, .int .u8 f, .int .i64 b, .int .i64 l, .int .i64 W, .int .i64 (C : Int)] [(p6, a j), (p3, T j), (p2, 0), (p1, p)] (S (j + 1)) own3 w')
      case first =>
        have gp : pb < wr.heap.size ∧ ¬ own' pb := by
          obtain ⟨b2, o2, e2, h0, -⟩ := hB.out j (by rw [hjl.out]; omega)
          injection e2 with e2
          injection e2 with e3 e4
          subst e3
          exact ⟨by have := World.block_lt_of_cell? _ _ hc0; simpa using this, H.mv.free (hnb.out _ rfl) (World.block_lt_of_cell? _ _ h0)⟩
        have g0 : w.heap.size < wr.heap.size ∧ ¬ own' w.heap.size := ⟨lt_of_get H.k0, H.f0⟩
        have g1 : p1 < wr.heap.size ∧ ¬ own' p1 := ⟨lt_of_get (H.at (p := p1) (z := p) (by simp)), (H.hs (p1, p) (by simp)).2.2⟩
        have hz9 := Lib.hid (Nat.le_refl wr.heap.size)
        refine segS_start (gb := fun k => k < wr.heap.size ∧ ¬ own' k) 16 (by kernel_rfl) (by decide) ?_
        intro v0 hv
        replace hz9 := Lib.hid (Nat.le_trans hz9.out hv.size)
        have H' := H.up hF hv
        clear H
        have H := H'
        clear H'
        have hc0' := (hv.cell (World.block_lt_of_cell? _ _ hc0)).trans hc0
        have hc1' := (hv.cell (World.block_lt_of_cell? _ _ hc1)).trans hc1
        clear hc0 hc1 hv
        refine segS_batch 8 [0, 1, 2, 3, 4, 5, 6, 7] (by kernel_rfl) rfl (by kernel_rfl) (by kernel_rfl) (by kernel_rfl) ?_
        apply Exists.intro
        refine ⟨fun ι _ φ hφ => ?_, fun v1 hv => ?_⟩
        · have q := fun i => blk6 ((hφ.old i).keeps H.k0 g0)
          have q0 := fun i => (q i).1
          have q1 := fun i => (q i).2.1
          have q2 := fun i => (q i).2.2.1
          have q3 := fun i => (q i).2.2.2.1
          have q4 := fun i => (q i).2.2.2.2.1
          have q5 := fun i => (q i).2.2.2.2.2
          clear q
          have e0 := fun i => (blk2 ((hφ.old i).keeps (H.at (p := p1) (z := p) (by simp)) g1)).1
          have e1 := fun i => (blk2 ((hφ.old i).keeps (H.at (p := p1) (z := p) (by simp)) g1)).2.1
          have b0 := fun i => (World.cell?_of_block (w := v0) (a := ⟨pb, po + j * 2, none⟩) ((hφ.old i).block pb (World.block_lt_of_cell? _ _ hc0') gp)).trans hc0'
          have b1 := fun i => (World.cell?_of_block (w := v0) (a := ⟨pb, po + j * 2 + 1, none⟩) ((hφ.old i).block pb (World.block_lt_of_cell? _ _ hc0') gp)).trans hc1'
          repeat (refine pick_step rfl ?_; go_big_quiet_step (fail))
          exact pick_end
        replace hz9 := Lib.hid (Nat.le_trans hz9.out hv.size)
        have H' := H.up hF hv
        clear H
        have H := H'
        clear H'
        clear hv hc0' hc1' gp g0 g1
        refine segS_more [8, 13] (by kernel_rfl) (by decide) ?_
        intro y hy
        simp only [List.mem_cons, List.not_mem_nil, or_false] at hy
        rcases hy with rfl | rfl
        · refine ⟨by decide, _, rfl, fun v3 K hv hK => ?_⟩
          replace hz9 := Lib.hid (Nat.le_trans hz9.out hv.size)
          have H' := H.up hF hv
          clear H
          have H := H'
          clear H'
          clear hv
          replace hK := Lib.hid hK
          go_simp
          refine (hpj.out _ _ (hch.out _ _ H.mv)).mono ?_
          rintro e v4 ⟨g, rfl, hv, hgl, hg⟩
          refine hK.out _ _ (HeldS.of_below hv) ?_
          clear hK K
          have hgn : ¬ own' g := hF.new H.st hgl
          replace hz9 := Lib.hid (Nat.le_trans hz9.out hv.size)
          have H' := H.up hF hv
          clear H
          have H := H'
          clear H'
          clear hv hgl
          refine segS_more [9, 13] (by kernel_rfl) (by decide) ?_
          intro y hy
          simp only [List.mem_cons, List.not_mem_nil, or_false] at hy
          rcases hy with rfl | rfl
          · refine ⟨by decide, _, rfl, fun v5 K hv hK => ?_⟩
            replace hg := hg.up hv
            replace hz9 := Lib.hid (Nat.le_trans hz9.out hv.size)
            have H' := H.up hF hv
            clear H
            have H := H'
            clear H'
            clear hv
            replace hK := Lib.hid hK
            go_simp
            refine (haj.out own' g _ H.st hg hgn).mono ?_
            rintro e v6 ⟨rfl, own3, hm3, hs3⟩
            refine hK.out _ _ ⟨hm3.os, hm3.tape, hm3.output, hm3.size, fun k hk hg => (hm3.keep k hk hg.2).1⟩ ?_
            clear hK K hg
            replace hz9 := Lib.hid (Nat.le_trans hz9.out hm3.size)
            have H' := H.ask hm3 hs3
            clear H hm3 hs3
            have H := H'
            clear H'
            refine segS_batch 3 [10, 11, 12] (by kernel_rfl) rfl (by kernel_rfl) (by kernel_rfl) (by kernel_rfl) ?_
            apply Exists.intro
            refine ⟨fun ι _ φ hφ => ?_, fun v8 hv => ?_⟩
            · repeat (refine pick_step rfl ?_; go_big_quiet_step (fail))
              exact pick_end
            replace hz9 := Lib.hid (Nat.le_trans hz9.out hv.size)
            have H' := H.up hF hv
            clear H
            have H := H'
            clear H'
            clear hv
            refine segS_one 13 _ (by decide) rfl (by kernel_rfl) ?_
            intro v9 K hv hK
            replace hz9 := Lib.hid (Nat.le_trans hz9.out hv.size)
            have H' := H.up hF hv
            clear H
            have H := H'
            clear H'
            clear hv
            replace hK := Lib.hid hK
            go_simp
            refine hK.out _ _ (HeldS.of_below ((Below.refl _ _).alloc (Nat.le_refl _) _)) ?_
            clear hK K
            have h6 := hz9
            have hn6 := Lib.hid (And.intro (lt_of_get (H.at (p := p3) (z := T j) (by simp))) (And.intro (lt_of_get (H.at (p := p2) (z := 0) (by simp))) (lt_of_get (H.at (p := p1) (z := p) (by simp)))))
            have H' := H.add hF 0 rfl
            clear H
            have H := H'
            clear H'
            replace hz9 := Lib.hid (Nat.le_trans hz9.out ((Below.refl _ _).alloc (Nat.le_refl _) (.cells #[.int .u64 (lo 0), .int .u64 (hi 0)] 28)).size)
            generalize hp6 : v9.heap.size = p6 at *
            refine segS_one 14 _ (by decide) rfl (by kernel_rfl) ?_
            intro va K hv hK
            replace hz9 := Lib.hid (Nat.le_trans hz9.out hv.size)
            have H' := H.up hF hv
            clear H
            have H := H'
            clear H'
            clear hv
            obtain ⟨t0, t1, t2, t3⟩ := blk2 (H.at (p := p6) (z := 0) (by simp))
            replace hK := Lib.hid hK
            go_simp
            refine hK.out _ _ (HeldS.set2 (fun h => by have := h6.out; have := h.1; omega)) ?_
            clear hK K t0 t1 t2 t3
            have H' := H.set hF (mine' := [(p6, a j), (p3, T j), (p2, 0), (p1, p)]) (p := p6) (z0 := 0) (z := a j) (by simp) (by have := hn6.out; simp; omega)
            clear H
            refine segS_one 15 _ (by decide) rfl (by kernel_rfl) ?_
            intro vb K hv hK
            have H := H'.up hF hv
            clear hv H'
            replace hK := Lib.hid hK
            go_simp
            refine hK.out _ _ (HeldS.refl _ _) ?_
            clear hK K
            refine segS_done rfl (by kernel_rfl) ?_
            intro vc hv
            have H' := H.up hF hv
            clear hv H hz9 h6 hn6
            go_wp2
            go_meet
            exact ⟨p6, own3, rfl, rfl, H'⟩
          · refine ⟨by decide, _, rfl, fun v5 K hv hK => ?_⟩
            replace hg := hg.up hv
            replace hz9 := Lib.hid (Nat.le_trans hz9.out hv.size)
            have H' := H.up hF hv
            clear H
            have H := H'
            clear H'
            clear hv
            replace hK := Lib.hid hK
            go_simp
            refine hK.out _ _ (HeldS.of_below ((Below.refl _ _).alloc (Nat.le_refl _) _)) ?_
            clear hK K
            have h6 := hz9
            have hn6 := Lib.hid (And.intro (lt_of_get (H.at (p := p3) (z := T j) (by simp))) (And.intro (lt_of_get (H.at (p := p2) (z := 0) (by simp))) (lt_of_get (H.at (p := p1) (z := p) (by simp)))))
            have H' := H.add hF 0 rfl
            clear H
            have H := H'
            clear H'
            replace hz9 := Lib.hid (Nat.le_trans hz9.out ((Below.refl _ _).alloc (Nat.le_refl _) (.cells #[.int .u64 (lo 0), .int .u64 (hi 0)] 28)).size)
            generalize hp6 : v5.heap.size = p6 at *
            refine segS_one 9 _ (by decide) rfl (by kernel_rfl) ?_
            intro v7 K hv hK
            replace hg := hg.up (((Below.refl _ _).alloc (Nat.le_refl _) (.cells #[.int .u64 (lo 0), .int .u64 (hi 0)] 28)))
            replace hg := hg.up hv
            replace hz9 := Lib.hid (Nat.le_trans hz9.out hv.size)
            have H' := H.up hF hv
            clear H
            have H := H'
            clear H'
            clear hv
            replace hK := Lib.hid hK
            go_simp
            refine (haj.out own' g _ H.st hg hgn).mono ?_
            rintro e v6 ⟨rfl, own3, hm3, hs3⟩
            refine hK.out _ _ ⟨hm3.os, hm3.tape, hm3.output, hm3.size, fun k hk hg => (hm3.keep k hk hg.2).1⟩ ?_
            clear hK K hg
            replace hz9 := Lib.hid (Nat.le_trans hz9.out hm3.size)
            have H' := H.ask hm3 hs3
            clear H hm3 hs3
            have H := H'
            clear H'
            refine segS_batch 2 [10, 11, 12] (by kernel_rfl) rfl (by kernel_rfl) (by kernel_rfl) (by kernel_rfl) ?_
            apply Exists.intro
            refine ⟨fun ι _ φ hφ => ?_, fun v8 hv => ?_⟩
            · repeat (refine pick_step rfl ?_; go_big_quiet_step (fail))
              exact pick_end
            replace hz9 := Lib.hid (Nat.le_trans hz9.out hv.size)
            have H' := H.up hF hv
            clear H
            have H := H'
            clear H'
            clear hv
            refine segS_one 14 _ (by decide) rfl (by kernel_rfl) ?_
            intro va K hv hK
            replace hz9 := Lib.hid (Nat.le_trans hz9.out hv.size)
            have H' := H.up hF hv
            clear H
            have H := H'
            clear H'
            clear hv
            obtain ⟨t0, t1, t2, t3⟩ := blk2 (H.at (p := p6) (z := 0) (by simp))
            replace hK := Lib.hid hK
            go_simp
            refine hK.out _ _ (HeldS.set2 (fun h => by have := h6.out; have := h.1; omega)) ?_
            clear hK K t0 t1 t2 t3
            have H' := H.set hF (mine' := [(p6, a j), (p3, T j), (p2, 0), (p1, p)]) (p := p6) (z0 := 0) (z := a j) (by simp) (by have := hn6.out; simp; omega)
            clear H
            refine segS_one 15 _ (by decide) rfl (by kernel_rfl) ?_
            intro vb K hv hK
            have H := H'.up hF hv
            clear hv H'
            replace hK := Lib.hid hK
            go_simp
            refine hK.out _ _ (HeldS.refl _ _) ?_
            clear hK K
            refine segS_done rfl (by kernel_rfl) ?_
            intro vc hv
            have H' := H.up hF hv
            clear hv H hz9 h6 hn6
            go_wp2
            go_meet
            exact ⟨p6, own3, rfl, rfl, H'⟩
        · refine ⟨by decide, _, rfl, fun v3 K hv hK => ?_⟩
          replace hz9 := Lib.hid (Nat.le_trans hz9.out hv.size)
          have H' := H.up hF hv
          clear H
          have H := H'
          clear H'
          clear hv
          replace hK := Lib.hid hK
          go_simp
          refine hK.out _ _ (HeldS.of_below ((Below.refl _ _).alloc (Nat.le_refl _) _)) ?_
          clear hK K
          have h6 := hz9
          have hn6 := Lib.hid (And.intro (lt_of_get (H.at (p := p3) (z := T j) (by simp))) (And.intro (lt_of_get (H.at (p := p2) (z := 0) (by simp))) (lt_of_get (H.at (p := p1) (z := p) (by simp)))))
          have H' := H.add hF 0 rfl
          clear H
          have H := H'
          clear H'
          replace hz9 := Lib.hid (Nat.le_trans hz9.out ((Below.refl _ _).alloc (Nat.le_refl _) (.cells #[.int .u64 (lo 0), .int .u64 (hi 0)] 28)).size)
          generalize hp6 : v3.heap.size = p6 at *
          refine segS_one 8 _ (by decide) rfl (by kernel_rfl) ?_
          intro v5 K hv hK
          replace hz9 := Lib.hid (Nat.le_trans hz9.out hv.size)
          have H' := H.up hF hv
          clear H
          have H := H'
          clear H'
          clear hv
          replace hK := Lib.hid hK
          go_simp
          refine (hpj.out _ _ (hch.out _ _ H.mv)).mono ?_
          rintro e v4 ⟨g, rfl, hv, hgl, hg⟩
          refine hK.out _ _ (HeldS.of_below hv) ?_
          clear hK K
          have hgn : ¬ own' g := hF.new H.st hgl
          replace hz9 := Lib.hid (Nat.le_trans hz9.out hv.size)
          have H' := H.up hF hv
          clear H
          have H := H'
          clear H'
          clear hv hgl
          refine segS_one 9 _ (by decide) rfl (by kernel_rfl) ?_
          intro v7 K hv hK
          replace hg := hg.up hv
          replace hz9 := Lib.hid (Nat.le_trans hz9.out hv.size)
          have H' := H.up hF hv
          clear H
          have H := H'
          clear H'
          clear hv
          replace hK := Lib.hid hK
          go_simp
          refine (haj.out own' g _ H.st hg hgn).mono ?_
          rintro e v6 ⟨rfl, own3, hm3, hs3⟩
          refine hK.out _ _ ⟨hm3.os, hm3.tape, hm3.output, hm3.size, fun k hk hg => (hm3.keep k hk hg.2).1⟩ ?_
          clear hK K hg
          replace hz9 := Lib.hid (Nat.le_trans hz9.out hm3.size)
          have H' := H.ask hm3 hs3
          clear H hm3 hs3
          have H := H'
          clear H'
          refine segS_batch 2 [10, 11, 12] (by kernel_rfl) rfl (by kernel_rfl) (by kernel_rfl) (by kernel_rfl) ?_
          apply Exists.intro
          refine ⟨fun ι _ φ hφ => ?_, fun v8 hv => ?_⟩
          · repeat (refine pick_step rfl ?_; go_big_quiet_step (fail))
            exact pick_end
          replace hz9 := Lib.hid (Nat.le_trans hz9.out hv.size)
          have H' := H.up hF hv
          clear H
          have H := H'
          clear H'
          clear hv
          refine segS_one 14 _ (by decide) rfl (by kernel_rfl) ?_
          intro va K hv hK
          replace hz9 := Lib.hid (Nat.le_trans hz9.out hv.size)
          have H' := H.up hF hv
          clear H
          have H := H'
          clear H'
          clear hv
          obtain ⟨t0, t1, t2, t3⟩ := blk2 (H.at (p := p6) (z := 0) (by simp))
          replace hK := Lib.hid hK
          go_simp
          refine hK.out _ _ (HeldS.set2 (fun h => by have := h6.out; have := h.1; omega)) ?_
          clear hK K t0 t1 t2 t3
          have H' := H.set hF (mine' := [(p6, a j), (p3, T j), (p2, 0), (p1, p)]) (p := p6) (z0 := 0) (z := a j) (by simp) (by have := hn6.out; simp; omega)
          clear H
          refine segS_one 15 _ (by decide) rfl (by kernel_rfl) ?_
          intro vb K hv hK
          have H := H'.up hF hv
          clear hv H'
          replace hK := Lib.hid hK
          go_simp
          refine hK.out _ _ (HeldS.refl _ _) ?_
          clear hK K
          refine segS_done rfl (by kernel_rfl) ?_
          intro vc hv
          have H' := H.up hF hv
          clear hv H hz9 h6 hn6
          go_wp2
          go_meet
          exact ⟨p6, own3, rfl, rfl, H'⟩
      clear H hc0 hc1 hpj haj hch
      obtain ⟨p6, own3, rfl, rfl, H⟩ := hcut
      by_cases he : er j = 0
      · have hz1 : Hid (∀ i, i < j + 1 → er i = 0) := Lib.hid (fun i hi => by
          rcases Nat.lt_succ_iff_lt_or_eq.1 hi with h | rfl
          · exact hz0.out i h
          · exact he)
        have hTj := hTb.out j
        have haB := hab.out j
        have h2 := Lib.hid ((hadd.out (T j) (a j) hTj.1 hTj.2 haB.1 haB.2).2)
        rw [hT1.out] at h2
        clear hTj haB
        rw [he]
        clear he
        obtain ⟨c0, c1, c2, c3, c4, c5⟩ := blk6 H.k0
        obtain ⟨t0, t1, t2, t3⟩ := blk2 (H.at (p := p3) (z := T j) (by simp))
        obtain ⟨s0, s1, -, -⟩ := blk2 (H.at (p := p6) (z := a j) (by simp))
        go_wp2_with fail
        refine call_then (h2.out _) ?_
        intro w8 hv
        replace H := (H.up hF hv).less (mine' := [(p3, T j), (p2, 0), (p1, p)]) (by simp)
        clear hv c0 c1 c2 c3 c4 c5 s0 s1 t0 t1 t2 t3
        obtain ⟨t0, t1, t2, t3⟩ := blk2 (H.at (p := p3) (z := T j) (by simp))
        have H9 := Lib.hid (H.set hF (mine' := [(p3, T (j + 1)), (p2, 0), (p1, p)]) (p := p3) (z0 := T j) (z := T (j + 1)) (by simp) (by have := hne.out; simp; omega))
        clear H
        go_wp2
        exact ⟨⟨j + 1, own3, by omega, by go_num, H9.out, hz1⟩, by simp [intOf]; omega⟩
      · have b1 : (er j != 0) = true := by simpa using he
        replace he := Lib.hid he
        replace H := H.less (mine' := [(p2, 0)]) (by simp)
        obtain ⟨t0, t1, t2, t3⟩ := blk2 (H.at (p := p2) (z := 0) (by simp))
        have H9 := H.set hF (mine' := [(p2, 0)]) (p := p2) (z0 := 0) (z := 0) (by simp) (by simp)
        go_wp2
        obtain ⟨r0, r1, -, -⟩ := blk2 (H9.at (p := p2) (z := 0) (by simp))
        rw [show lo 0 = 0 from rfl, show hi 0 = 0 from rfl] at r0 r1
        exact bodyPost_ret (v := .tuple #[.agg #[.int .u64 0, .int .u64 0], .int .i64 (er j)]) (by simp [results, Tryz.results81, go_sem, r0, r1]) rfl (Or.inl ⟨j, hlt, he.out, hz0.out, rfl, H9.out⟩)
    · obtain rfl : n1 = j := by omega
      have j1 : ¬ (n1 : Int) < (n1 : Int) := by omega
      obtain ⟨t0, t1, t2, t3⟩ := blk2 (H.at (p := p2) (z := 0) (by simp))
      obtain ⟨s0, s1, -, -⟩ := blk2 (H.at (p := p3) (z := T n1) (by simp))
      have H9 := H.set hF (mine' := [(p2, T n1)]) (p := p2) (z0 := 0) (z := T n1) (by simp) (by simp)
      go_wp2
      obtain ⟨r0, r1, -, -⟩ := blk2 (H9.at (p := p2) (z := T n1) (by simp))
      exact bodyPost_ret (v := .tuple #[.agg #[.int .u64 (lo (T n1)), .int .u64 (hi (T n1))], .int .i64 0]) (by simp [results, Tryz.results81, go_sem, r0, r1]) rfl (Or.inr ⟨hz0.out, rfl, H9.out⟩)
end
end Go.Proofs.YtebgfelbffgnbaaGreatDoor

/-
  Run: what can't be run.
-/
namespace Go.Proofs.YtebgfelbffgnbaaGreatDoor
open Go.RowKit Flow F
set_option linter.unusedVariables false
set_option linter.unusedSimpArgs false
attribute [local go_sem] eql_elem

theorem is_func (F : FuncId) (caps : Array Value) (w : World) : (binOp .eql 107 (.func (.func F) #[] caps) .nilFunc).run Tryz.prog w = .ok (.bool false) w := by
  have h : ∀ d : Nat, (Op.equalIn (d + 1) 107 (.func (.func F) #[] caps) .nilFunc).run Tryz.prog w = .ok false w := fun d => by
    simp [Op.equalIn, run_underlying Tryz.underlying107]
  simp only [binOp]
  simp [Op.equal, Op.maxDepth, h 9999]
/-- An error is answered. -/
def RunBad (c : Int) (w : World) (e : Ending) (w' : World) : Prop := e = .returned (.tuple #[.agg #[.int .u64 0, .int .u64 0], .int .i64 c]) ∧ Below w.heap.size w w'
set_option maxHeartbeats 2000000 in
theorem run_code (x : Ci) (A B : Option Addr) (N cp n cq : Nat) (sh : Int) (fv : Value) (h : x.code ≠ 0) (w : World) : Calls Tryz.prog 29 #[cvl x, .slice A N cp, .slice B n cq, .int .i64 sh, fv] w (RunBad x.code w) := by
  unfold RunBad
  obtain ⟨k, f, b, l, W, c⟩ := x
  have hC := fun w => ccheck_any k f b l W c w
  unfold cvl
  generalize (Ci.mk k f b l W c).code = z at *
  have h1 : (z != 0) = true := by simpa using h
  replace hC := Lib.hid hC
  clear h
  go_enter Tryz.func29, Tryz.ntmps29
  go_upto_region 1 with (fail)
  refine name_wp (fun w1 => Below w.heap.size w w1 ∧ w1.heap[w.heap.size]? = some (.cells #[.int .u8 k, .int .u8 f, .int .i64 b, .int .i64 l, .int .i64 W, .int .i64 c] 33 (0, 0)) ∧ Holds w1 (w.heap.size + 1) 0) ⟨((Below.refl _ _).alloc (Nat.le_refl _) _).alloc (by simp) _, alloc_keeps (alloc_at rfl), alloc_at (by simp)⟩ ?_
  rintro w1 ⟨hb, k0, kr⟩
  obtain ⟨c0, c1, c2, c3, c4, c5⟩ := blk6 k0
  go_wp2_with fail
  refine call_then (hC.out _) ?_
  intro w2 hv
  replace hb := below_next hb hb.size hv
  replace k0 := keeps hv k0
  replace kr := kr.up hv
  clear hv c0 c1 c2 c3 c4 c5
  obtain ⟨c0, c1, c2, c3, c4, c5⟩ := blk6 k0
  obtain ⟨t0, t1, t2, t3⟩ := blk2 kr
  go_wp2
  obtain ⟨p2, q2, _, _⟩ := blk2 (kr.set 0)
  rw [show lo 0 = 0 from rfl, show hi 0 = 0 from rfl] at p2 q2
  exact bodyPost_ret (v := .tuple #[.agg #[.int .u64 0, .int .u64 0], .int .i64 (z)]) (by simp [results, Tryz.results29, go_sem, p2, q2]) rfl ⟨rfl, below_store2 hb (Nat.le_succ _)⟩
set_option maxHeartbeats 2000000 in
theorem run_size (x : Ci) (A B : Option Addr) (N cp n cq : Nat) (sh : Int) (F : FuncId) (caps : Array Value) (h : x.Good) (hN : N ≠ x.inN ∨ n ≠ x.jointN) (w : World) : Calls Tryz.prog 29 #[cvl x, .slice A N cp, .slice B n cq, .int .i64 sh, .func (.func F) #[] caps] w (RunBad 9 w) := by
  unfold RunBad
  have hz := h.code
  have hnf := is_func F caps
  have hJ := fun w => joint_any x h w
  obtain ⟨k, f, b, l, W, c⟩ := x
  have hC := fun w => ccheck_any k f b l W c w
  have hI := fun w => cin_any k f b l W c h.fits w
  rw [hz] at hC
  unfold cvl at *
  generalize (Ci.mk k f b l W c).inN = I at *
  generalize (Ci.mk k f b l W c).jointN = J at *
  replace hC := Lib.hid hC
  replace hI := Lib.hid hI
  replace hJ := Lib.hid hJ
  clear h hz
  by_cases hNI : N = I
  · have b1 : ((N : Int) != (I : Int)) = false := by simp; omega
    have b2 : ((n : Int) != (J : Int)) = true := by simp; omega
    clear hN hNI
    go_enter Tryz.func29, Tryz.ntmps29
    go_upto_region 1 with (fail)
    refine name_wp (fun w1 => Below w.heap.size w w1 ∧ w1.heap[w.heap.size]? = some (.cells #[.int .u8 k, .int .u8 f, .int .i64 b, .int .i64 l, .int .i64 W, .int .i64 c] 33 (0, 0)) ∧ Holds w1 (w.heap.size + 1) 0) ⟨((Below.refl _ _).alloc (Nat.le_refl _) _).alloc (by simp) _, alloc_keeps (alloc_at rfl), alloc_at (by simp)⟩ ?_
    rintro w1 ⟨hb, k0, kr⟩
    obtain ⟨c0, c1, c2, c3, c4, c5⟩ := blk6 k0
    go_wp2_with fail
    refine call_then (hC.out _) ?_
    intro w2 hv
    replace hb := below_next hb hb.size hv
    replace k0 := keeps hv k0
    replace kr := kr.up hv
    clear hv c0 c1 c2 c3 c4 c5
    obtain ⟨c0, c1, c2, c3, c4, c5⟩ := blk6 k0
    go_wp2_with fail
    refine call_then (hI.out _) ?_
    intro w3 hv
    replace hb := below_next hb hb.size hv
    replace k0 := keeps hv k0
    replace kr := kr.up hv
    clear hv c0 c1 c2 c3 c4 c5
    obtain ⟨c0, c1, c2, c3, c4, c5⟩ := blk6 k0
    go_wp2_with fail
    refine call_then (hJ.out _) ?_
    intro w4 hv
    replace hb := below_next hb hb.size hv
    replace k0 := keeps hv k0
    replace kr := kr.up hv
    clear hv c0 c1 c2 c3 c4 c5
    obtain ⟨c0, c1, c2, c3, c4, c5⟩ := blk6 k0
    obtain ⟨t0, t1, t2, t3⟩ := blk2 kr
    go_wp2
    obtain ⟨p2, q2, _, _⟩ := blk2 (kr.set 0)
    rw [show lo 0 = 0 from rfl, show hi 0 = 0 from rfl] at p2 q2
    exact bodyPost_ret (v := .tuple #[.agg #[.int .u64 0, .int .u64 0], .int .i64 (9)]) (by simp [results, Tryz.results29, go_sem, p2, q2]) rfl ⟨rfl, below_store2 hb (Nat.le_succ _)⟩
  · have b1 : ((N : Int) != (I : Int)) = true := by simp; omega
    clear hN hNI
    go_enter Tryz.func29, Tryz.ntmps29
    go_upto_region 1 with (fail)
    refine name_wp (fun w1 => Below w.heap.size w w1 ∧ w1.heap[w.heap.size]? = some (.cells #[.int .u8 k, .int .u8 f, .int .i64 b, .int .i64 l, .int .i64 W, .int .i64 c] 33 (0, 0)) ∧ Holds w1 (w.heap.size + 1) 0) ⟨((Below.refl _ _).alloc (Nat.le_refl _) _).alloc (by simp) _, alloc_keeps (alloc_at rfl), alloc_at (by simp)⟩ ?_
    rintro w1 ⟨hb, k0, kr⟩
    obtain ⟨c0, c1, c2, c3, c4, c5⟩ := blk6 k0
    go_wp2_with fail
    refine call_then (hC.out _) ?_
    intro w2 hv
    replace hb := below_next hb hb.size hv
    replace k0 := keeps hv k0
    replace kr := kr.up hv
    clear hv c0 c1 c2 c3 c4 c5
    obtain ⟨c0, c1, c2, c3, c4, c5⟩ := blk6 k0
    go_wp2_with fail
    refine call_then (hI.out _) ?_
    intro w3 hv
    replace hb := below_next hb hb.size hv
    replace k0 := keeps hv k0
    replace kr := kr.up hv
    clear hv c0 c1 c2 c3 c4 c5
    obtain ⟨c0, c1, c2, c3, c4, c5⟩ := blk6 k0
    obtain ⟨t0, t1, t2, t3⟩ := blk2 kr
    go_wp2
    obtain ⟨p2, q2, _, _⟩ := blk2 (kr.set 0)
    rw [show lo 0 = 0 from rfl, show hi 0 = 0 from rfl] at p2 q2
    exact bodyPost_ret (v := .tuple #[.agg #[.int .u64 0, .int .u64 0], .int .i64 (9)]) (by simp [results, Tryz.results29, go_sem, p2, q2]) rfl ⟨rfl, below_store2 hb (Nat.le_succ _)⟩
end Go.Proofs.YtebgfelbffgnbaaGreatDoor

/-
  Run: what is said.
-/
namespace Go.Proofs.YtebgfelbffgnbaaGreatDoor
open Go.RowKit Flow F
set_option linter.unusedVariables false
set_option linter.unusedSimpArgs false
attribute [local go_sem] eql_elem

theorem invBy_of {f : Int} (h : f = 1 ∨ f = 2) : InvBy f := by rcases h with rfl | rfl; exact invBy1; exact invBy2
/-- What the gadget is asked; what comes of the answers. -/
def askQ (x : Ci) (xs js : List Int) (p : Int) (k : Nat) : List Int := if x.k = 1 then [xs.getD 0 0, xs.getD 0 0] else if x.k = 2 then [xs.getD k 0] else chunkQ x.f p xs js x.c.toNat k
def runF (x : Ci) (xs js : List Int) (p : Int) (a : Nat → Int) : Int :=
  if x.k = 1 then sub x.f (a 0) (xs.getD 0 0) else if x.k = 2 then totS x.f (js.getD 0 0) a x.callsN else add x.f (totC x.f a x.callsN) (weightF x xs (js.getD (x.jointN - 1) 0) p)
section
variable {F : FuncId} {caps : Array Value} {σ : Type} {St : σ → (Nat → Prop) → World → Prop} {step : σ → List Int → σ} {ans err : σ → List Int → Int} {can : σ → List Int → Prop}
theorem Ran.pass {own : Nat → Prop} {q : Nat → List Int} {n : Nat} {said : Int} {s : σ} {w w' : World} {e : Ending} (h : Ran St step err own q n said s w e w') :
    ∃ r c s', AskOut St own r c s' w e w' ∧ ∀ own0 w0 e2 w2, AskOut St own0 r c s' w0 e2 w2 → Ran St step err own0 q n said s w0 e2 w2 := by
  rcases h with ⟨j, h1, h2, h3, h4⟩ | ⟨h1, h2⟩
  · exact ⟨_, _, _, h4, fun own0 w0 e2 w2 h => Or.inl ⟨j, h1, h2, h3, h⟩⟩
  · exact ⟨_, _, _, h2, fun own0 w0 e2 w2 h => Or.inr ⟨h1, h⟩⟩
theorem runCount_ran (hF : Asking F caps St step ans err can) (x : Ci) (h : x.Good) (z : Int) (hz : 0 ≤ z ∧ z < 340282366920938463463374607431768211456) (s : σ) (hcan : can s [z, z]) (own : Nat → Prop) (w : World) (hs : St s own w) (q : Nat → List Int) (hq : q 0 = [z, z]) :
    Calls Tryz.prog 79 #[cvl x, .agg #[.int .u64 (lo z), .int .u64 (hi z)], .func (.func F) #[] caps] w (Ran St step err own q 1 (sub x.f (ans s (q 0)) z) s w) := by
  refine (runCount_any hF x h z hz s hcan own w hs).mono fun e w' hh => ?_
  rw [← hq] at hh
  by_cases he : err s (q 0) = 0
  · rw [if_pos he, he] at hh
    exact Or.inr ⟨fun i hi => by obtain rfl : i = 0 := by omega
                                 exact he, hh⟩
  · rw [if_neg he] at hh
    exact Or.inl ⟨0, by omega, he, fun i hi => absurd hi (Nat.not_lt_zero _), hh⟩
-- Up to the part that a share has.
end
end Go.Proofs.YtebgfelbffgnbaaGreatDoor
