/-
  CircuitEncodes' walk.
-/
import Derived.Test.YtgdokfchfgnbbaaCkB
import Derived.Test.YtgdokfchfgnbbaaBA
import Derived.Test.YtgdokfchfgnbbaaBX
namespace Go.Proofs.Ytgdokfchfgnbbaa
open Go.RowKit Flow F
set_option linter.unusedVariables false
set_option linter.unusedSimpArgs false
attribute [local go_sem] eql_elem

theorem WordsAt.new {w w' : World} {o : Obj} {A : Option Addr} {zs : List Int} (h : WordsAt w A zs) (hb : But w.heap.size (w.alloc o) w') : WordsAt w' A zs := fun k hk => by
  obtain ⟨b, q, e, hc⟩ := h k hk
  have hlt := World.block_lt_of_cell? _ _ hc
  simp only at hlt
  refine ⟨b, q, e, ?_⟩
  rw [World.cell?_of_block (w := w.alloc o) (a := ⟨b, q + k, none⟩) (hb.block b (by simp; omega) (Nat.ne_of_lt hlt))]
  exact (((Below.refl _ _).alloc (Nat.le_refl _) o).cell (p := ⟨b, q + k, none⟩) hlt).trans hc
theorem bits_small {xs : List Int} (h : bitsB xs = true) {k : Nat} (hk : k < xs.length) : lo (xs.getD k 0) = xs.getD k 0 ∧ hi (xs.getD k 0) = 0 := by
  unfold bitsB at h
  rw [List.all_eq_true] at h
  have hx := h _ (List.getElem_mem hk)
  rw [List.getD_eq_getElem?_getD, List.getElem?_eq_getElem hk]
  have : xs[k] = 0 ∨ xs[k] = 1 := by simpa using hx
  rcases this with e | e
  · rw [Option.getD_some, e]; exact ⟨by decide, by decide⟩
  · rw [Option.getD_some, e]; exact ⟨by decide, by decide⟩
theorem sumN_small {x : Ci} {zs : List Int} (hz : WordsOK zs) {i : Nat} (h : x.k = 4 ∨ i < zs.length) : lo (sumN x zs i) = sumN x zs i ∧ hi (sumN x zs i) = 0 := by
  have hb : 0 ≤ sumN x zs i ∧ sumN x zs i < 18446744073709551616 := by
    unfold sumN
    by_cases h4 : x.k = 4
    · rw [if_pos h4]; split <;> omega
    · rw [if_neg h4]; exact hz.at_ (by omega)
  unfold lo hi
  omega
/-- What lasts over a round. -/
structure EncEnd (w0 wr : World) (g q gs : Nat) (c X y : Ci) (A : Option Addr) (N cp : Nat) (A' : Option Addr) (N' cp' : Nat) (D : Option Addr) (M dp : Nat) (zs' zs S : List Int) : Prop where
  below : Below w0.heap.size w0 wr
  trip : Trip wr g c X A N cp A' N' cp'
  ent : wr.heap[q]? = some (.cells (tcells y D M dp).toArray 48 (0, 0))
  wa : WordsAt wr A' zs'
  wd : WordsAt wr D zs
  row : Row wr gs S
set_option maxRecDepth 20000 in
set_option maxHeartbeats 8000000 in
theorem encodes_walk (c : Ci) (K F B L W C : Int) (rs : List Int) (A : Option Addr) (N cp : Nat) (hl : rs.length = N) (hNm : N ≤ maxLen) (hr : WordsOK rs)
    (ck0 : 0 ≤ c.k) (ck1 : c.k ≤ 255) (cf0 : 0 ≤ c.f) (cf1 : c.f ≤ 255) (k0 : 0 ≤ K) (k1 : K ≤ 255) (f0 : 0 ≤ F) (f1 : F ≤ 255) (b0 : 0 ≤ B) (b1 : B ≤ 255) (l0 : 0 ≤ L) (l1 : L ≤ 255) (w0 : 0 ≤ W) (w1 : W ≤ 255) (c0 : 0 ≤ C) (c1 : C ≤ 255) (w : World) (hA : WordsAt w A rs) :
    Calls Try.prog 4 #[cvl c, svl K F B L W C, .slice A N cp] w fun e w' => e = .returned (.bool true) ∧ Below w.heap.size w w' := by
  have hAw := Lib.hid (fun w => awake_ok w)
  have hS := Lib.hid (fun w => small_any K F B L W C k0 k1 f0 f1 b0 b1 l0 l1 w0 w1 c0 c1 w)
  obtain ⟨X, hX⟩ : ∃ X, smallC K F B L W C = X := ⟨_, rfl⟩
  have hXg : X.Good := by rw [← hX]; exact small_good _ _ _ _ _ _
  rw [hX] at hS
  clear hX k0 k1 f0 f1 b0 b1 l0 l1 w0 w1 c0 c1
  have hMe := Lib.hid (fun hm w hA => measure_any X hXg rs A N cp hl hm hr w hA)
  unfold svl cvl at *
  unfold maxLen at hNm
  replace hXg := Lib.hid hXg
  replace hl := Lib.hid hl
  replace hr := Lib.hid hr
  replace hA := Lib.hid hA
  go_enter Try.func4, Try.ntmps4
  go_wp2_with fail
  refine name_calls (fun w1 => Below w.heap.size w w1 ∧ w1.heap[w.heap.size]? = some (.cells #[.int .u8 c.k, .int .u8 c.f, .int .i64 c.b, .int .i64 c.l, .int .i64 c.w, .int .i64 c.c] 25 (0, 0)) ∧ w1.heap[w.heap.size + 1]? = some (.cells #[.int .u8 K, .int .u8 F, .int .u8 B, .int .u8 L, .int .u8 W, .int .u8 C] 27 (0, 0))) ⟨((Below.refl _ _).alloc (Nat.le_refl _) _).alloc (by simp) _, alloc_keeps (alloc_at rfl), alloc_at (by simp)⟩ ?_
  rintro w1 ⟨hb, kc, ks⟩
  refine call_then (hAw.out _) ?_
  intro w2 hv
  replace hb := below_next hb hb.size hv
  replace kc := keeps hv kc
  replace ks := keeps hv ks
  clear hv
  by_cases h100 : 100 < N
  · have n1 : (100 : Int) < (N : Int) := by omega
    go_wp2
    go_ret
    exact ⟨rfl, hb⟩
  · have n1 : ¬ (100 : Int) < (N : Int) := by omega
    have hN1 : N ≤ 100 := by omega
    obtain ⟨s0, s1, s2, s3, s4, s5⟩ := blk6 ks
    go_wp2_with fail
    refine call_then (hS.out _) ?_
    intro w3 hv
    replace hb := below_next hb hb.size hv
    replace kc := keeps hv kc
    replace ks := keeps hv ks
    clear hv
    clear s0 s1 s2 s3 s4 s5 h100
    have q1 := lt_of_get kc
    have q2 := Nat.ne_of_lt q1
    go_upto_region 6 with (fail)
    refine name_wp (fun w4 => Below w.heap.size w w4 ∧ w4.heap[w.heap.size]? = some (.cells #[.int .u8 c.k, .int .u8 c.f, .int .i64 c.b, .int .i64 c.l, .int .i64 c.w, .int .i64 c.c] 25 (0, 0)) ∧ w4.heap[w3.heap.size]? = some (.cells #[.int .u8 X.k, .int .u8 X.f, .int .i64 X.b, .int .i64 X.l, .int .i64 X.w, .int .i64 X.c] 25 (0, 0))) ⟨hb.alloc hb.size _, alloc_keeps kc, alloc_at rfl⟩ ?_
    clear hb kc ks q1 q2
    generalize w3.heap.size = px at *
    rintro w4 ⟨hb, kc, ks⟩
    clear w1 w2 w3
    refine seg_start 14 (by kernel_rfl) (by decide) ?_
    intro v0 hv
    replace hb := below_next hb hb.size hv
    replace kc := keeps hv kc
    replace ks := keeps hv ks
    clear hv
    refine seg_batch 4 [0, 1, 2, 3, 4, 5, 6, 7, 8, 13] (by kernel_rfl) rfl (by kernel_rfl) (by kernel_rfl) (by kernel_rfl) ?_
    apply Exists.intro
    refine ⟨fun ι _ φ hφ => ?_, fun v1 hv => ?_⟩
    · have q := fun i => blk6 (keeps (hφ.old i) kc)
      have q0 := fun i => (q i).1
      have q1 := fun i => (q i).2.1
      have q2 := fun i => (q i).2.2.1
      have q3 := fun i => (q i).2.2.2.1
      have q4 := fun i => (q i).2.2.2.2.1
      have q5 := fun i => (q i).2.2.2.2.2
      clear q
      have s := fun i => blk6 (keeps (hφ.old i) ks)
      have s0 := fun i => (s i).1
      have s1 := fun i => (s i).2.1
      have s2 := fun i => (s i).2.2.1
      have s3 := fun i => (s i).2.2.2.1
      have s4 := fun i => (s i).2.2.2.2.1
      have s5 := fun i => (s i).2.2.2.2.2
      clear s
      repeat (refine pick_step rfl ?_; go_big_quiet_step (fail))
      exact pick_end
    replace hb := below_next hb hb.size hv
    replace kc := keeps hv kc
    replace ks := keeps hv ks
    clear hv
    refine seg_one 9 _ (by decide) rfl (by kernel_rfl) ?_
    intro v2 K' hv hK
    replace hb := below_next hb hb.size hv
    replace kc := keeps hv kc
    replace ks := keeps hv ks
    clear hv
    replace hK := Lib.hid hK
    go_simp
    refine (hMe.out hN1 v2 (hA.out.up hb)).mono ?_
    rintro e v3 ⟨A', zs', cp', rfl, hv, hzo', hzl', hA'⟩
    refine hK.out _ _ hv ?_
    clear hK K'
    replace hb := below_next hb hb.size hv
    replace kc := keeps hv kc
    replace ks := keeps hv ks
    clear hv
    obtain ⟨N', hN'⟩ : ∃ N', zs'.length = N' := ⟨_, rfl⟩
    rw [hN'] at hzl' ⊢
    replace hN' := Lib.hid hN'
    replace hA' := Lib.hid hA'
    replace hzo' := Lib.hid hzo'
    refine seg_batch 2 [10] (by kernel_rfl) rfl (by kernel_rfl) (by kernel_rfl) (by kernel_rfl) ?_
    apply Exists.intro
    refine ⟨fun ι _ φ hφ => ?_, fun v4 hv => ?_⟩
    · repeat (refine pick_step rfl ?_; go_big_quiet_step (fail))
      exact pick_end
    replace hA' := Lib.hid (hA'.out.up hv)
    replace hb := below_next hb hb.size hv
    replace kc := keeps hv kc
    replace ks := keeps hv ks
    clear hv
    refine seg_one 11 _ (by decide) rfl (by kernel_rfl) ?_
    intro v5 K' hv hK
    replace hA' := Lib.hid (hA'.out.up hv)
    replace hb := below_next hb hb.size hv
    replace kc := keeps hv kc
    replace ks := keeps hv ks
    clear hv
    replace hK := Lib.hid hK
    go_simp
    refine hK.out _ _ ((Below.refl _ _).alloc (Nat.le_refl _) _) ?_
    clear hK
    have kp : Trip (v5.alloc (.cells #[.int .u8 c.k, .int .u8 c.f, .int .i64 c.b, .int .i64 c.l, .int .i64 c.w, .int .i64 c.c, .slice A N cp, .int .u8 X.k, .int .u8 X.f, .int .i64 X.b, .int .i64 X.l, .int .i64 X.w, .int .i64 X.c, .slice A N cp, .int .u8 X.k, .int .u8 X.f, .int .i64 X.b, .int .i64 X.l, .int .i64 X.w, .int .i64 X.c, .slice A' N' cp'] 48)) v5.heap.size c X A N cp A' N' cp' := alloc_at rfl
    replace hb := hb.alloc hb.size (.cells #[.int .u8 c.k, .int .u8 c.f, .int .i64 c.b, .int .i64 c.l, .int .i64 c.w, .int .i64 c.c, .slice A N cp, .int .u8 X.k, .int .u8 X.f, .int .i64 X.b, .int .i64 X.l, .int .i64 X.w, .int .i64 X.c, .slice A N cp, .int .u8 X.k, .int .u8 X.f, .int .i64 X.b, .int .i64 X.l, .int .i64 X.w, .int .i64 X.c, .slice A' N' cp'] 48)
    replace hA' := Lib.hid (hA'.out.up ((Below.refl _ _).alloc (Nat.le_refl _) (.cells #[.int .u8 c.k, .int .u8 c.f, .int .i64 c.b, .int .i64 c.l, .int .i64 c.w, .int .i64 c.c, .slice A N cp, .int .u8 X.k, .int .u8 X.f, .int .i64 X.b, .int .i64 X.l, .int .i64 X.w, .int .i64 X.c, .slice A N cp, .int .u8 X.k, .int .u8 X.f, .int .i64 X.b, .int .i64 X.l, .int .i64 X.w, .int .i64 X.c, .slice A' N' cp'] 48)))
    clear kc ks
    generalize v5.alloc (.cells #[.int .u8 c.k, .int .u8 c.f, .int .i64 c.b, .int .i64 c.l, .int .i64 c.w, .int .i64 c.c, .slice A N cp, .int .u8 X.k, .int .u8 X.f, .int .i64 X.b, .int .i64 X.l, .int .i64 X.w, .int .i64 X.c, .slice A N cp, .int .u8 X.k, .int .u8 X.f, .int .i64 X.b, .int .i64 X.l, .int .i64 X.w, .int .i64 X.c, .slice A' N' cp'] 48) = v6 at *
    generalize v5.heap.size = g at *
    refine seg_batch 0 [12] (by kernel_rfl) rfl (by kernel_rfl) (by kernel_rfl) (by kernel_rfl) ?_
    apply Exists.intro
    refine ⟨fun ι _ φ hφ => ?_, fun v7 hv => ?_⟩
    · repeat (refine pick_step rfl ?_; go_big_quiet_step (fail))
      exact pick_end
    replace hA' := Lib.hid (hA'.out.up hv)
    replace hb := below_next hb hb.size hv
    replace kp := keeps hv kp
    clear hv
    refine seg_done rfl (by kernel_rfl) ?_
    intro v8 hv
    replace hA' := Lib.hid (hA'.out.up hv)
    replace hb := below_next hb hb.size hv
    replace kp := keeps hv kp
    clear hv v0 v1 v2 v3 v4 v5 v6 v7 w4
    go_wp2
    go_loopw [40] (fun i wr => ∃ n : Nat, n ≤ 3 ∧ i = .int .i64 (n : Int) ∧ Below w.heap.size w wr ∧ Trip wr g c X A N cp A' N' cp' ∧ Hid (WordsAt wr A' zs')) (fun i _ => 3 - (intOf i).toNat)
    case atStart => exact ⟨0, Nat.zero_le _, rfl, hb, kp, hA'⟩
    case round =>
      clear hb kp hA'
      obtain ⟨n, hn, rfl, hb, kp, hA'⟩ := hrel
      by_cases hlt : n < 3
      · have j1 : (n : Int) < 3 := by omega
        have j0 : (0 : Int) ≤ (n : Int) := by omega
        have hat := kp.at_ n hlt
        obtain ⟨y, hy, hyk⟩ : ∃ y : Ci, (if n = 0 then c else X) = y ∧ (0 ≤ y.k ∧ y.k ≤ 255 ∧ 0 ≤ y.f ∧ y.f ≤ 255) := ⟨_, rfl, by
          have h1 := hXg.out.fits.k1
          have h2 := hXg.out.fits.k5
          have h3 := hXg.out.f
          split <;> omega⟩
        rw [hy] at hat
        obtain ⟨D, M, dp, zs, hD, hM, hdp, hMl, hM1, hzo, hW⟩ : ∃ (D : Option Addr) (M dp : Nat) (zs : List Int), (if n = 2 then A' else A) = D ∧ (if n = 2 then N' else N) = M ∧ (if n = 2 then cp' else cp) = dp ∧ zs.length = M ∧ M ≤ 100 ∧ WordsOK zs ∧ WordsAt wr D zs := by
          by_cases h2 : n = 2
          · exact ⟨A', N', cp', zs', by rw [if_pos h2], by rw [if_pos h2], by rw [if_pos h2], hN'.out, by omega, hzo'.out, hA'.out⟩
          · exact ⟨A, N, cp, rs, by rw [if_neg h2], by rw [if_neg h2], by rw [if_neg h2], hl.out, by omega, hr.out, hA.out.up hb⟩
        rw [hD, hM, hdp] at hat
        have hks : (wr.alloc (.cells zero7.toArray 48 (0, 0))).heap[wr.heap.size]? = some (.cells zero7.toArray 48 (0, 0)) := alloc_at rfl
        replace hy := Lib.hid hy
        replace hyk := Lib.hid hyk
        replace hD := Lib.hid hD
        replace hM := Lib.hid hM
        replace hdp := Lib.hid hdp
        replace hMl := Lib.hid hMl
        replace hzo := Lib.hid hzo
        replace hW := Lib.hid hW
        go_upto_region 9 with (first
          | (refine list_load_mid _ _ _ _ _ _ rfl rfl rfl hat Try.underlying48 rfl info_entry ?_)
          | (refine list_store_whole _ _ _ _ (tcells y D M dp) zero7 48 rfl rfl rfl rfl hks rfl info_entry (tcells_one y D M dp) ?_; intro w6 hbut kz))
        have kp6 : Trip w6 g c X A N cp A' N' cp' := (hbut.block g (by have := lt_of_get kp; simp; omega) (Nat.ne_of_lt (lt_of_get kp))).trans (alloc_keeps kp)
        have hb6 : Below w.heap.size w w6 := hbut.below (hb.alloc hb.size _) hb.size (by have := hb.size; simp; omega)
        have hA6 := Lib.hid (hA'.out.new hbut)
        have hW6 := Lib.hid (hW.out.new hbut)
        have hqw := hb.size
        clear hbut hks hat hb kp hA' hW
        have hb := hb6
        have kp := kp6
        have hA' := hA6
        have hW := hW6
        clear hb6 kp6 hA6 hW6
        generalize wr.heap.size = q at *
        have hRf := Lib.hid (fun w => ref_any y hyk.out.1 hyk.out.2.1 hyk.out.2.2.1 hyk.out.2.2.2 w)
        obtain ⟨E, hE⟩ : ∃ E, encE y M zs = E := ⟨_, rfl⟩
        by_cases hEz : E = 0
        · subst hEz
          obtain ⟨hg, hMe2, hft⟩ := encE_good hE
          have hLl := enc_len hg (zs := zs) (by rw [hMl.out]; exact hMe2)
          have hLb := enc_bitsB hg hzo.out hft
          have hLv := enc_valid hg hzo.out (by rw [hMl.out]; exact hMe2) hft
          have hLt := fun (i : Nat) (hi : i < y.outN) => enc_trunc hg hzo.out (by rw [hMl.out]; exact hMe2) hft hi
          have hsm := fun (i : Nat) (hi : y.k = 4 ∨ i < M) => sumN_small (x := y) (zs := zs) hzo.out (i := i) (by rw [hMl.out]; exact hi)
          have hEn := Lib.hid (fun w hA => enc_ok y zs D M dp hg hMe2 hMl.out (by unfold maxLen; omega) hzo.out hft w hA)
          have hEr := Lib.hid (fun w hA => renc_good y zs D M dp hMl.out hzo.out hE w hA)
          have hV := Lib.hid (fun A c w hc hA => valid_ok y hg (encL y zs) A y.inN c hLl rfl hc (bits_in hLb) w hA)
          rw [hLv] at hV
          have hT := Lib.hid (fun A c w hc hA => trunc_ok y hg (encL y zs) A y.inN c hLl rfl hc (bits_in (f := y.f) hLb).ok w hA)
          have hO := Lib.hid (out_any y hg)
          have hTl := truncL_length y (encL y zs)
          have hTi : ∀ i, i < y.outN → (truncL y (encL y zs)).getD i 0 = sumN y zs i := fun i hi => by
            rw [← hLt i hi]
            unfold truncL
            simp [hi]
          have hbs := fun k (hk : k < y.inN) => bits_small hLb (k := k) (by rw [hLl]; exact hk)
          have hIle := hg.fits.in_le
          have hO64 : y.outN ≤ 64 := by
            have := hg.fits.l
            have := hg.fits.k1
            unfold Ci.outN
            split <;> omega
          have hMO : y.k ≠ 4 → M = y.outN := fun h4 => by rw [hMe2]; unfold Ci.measuredN; rw [if_neg h4]
          have hM14 : y.k = 4 → M = 1 := fun h4 => by rw [hMe2]; unfold Ci.measuredN; rw [if_pos h4]
          generalize truncL y (encL y zs) = S at *
          generalize encL y zs = LL at *
          generalize y.inN = I at *
          generalize y.outN = O at *
          unfold cvl at hEn hRf hV hT
          unfold cvl NumBy at hO
          replace hLl := Lib.hid hLl
          replace hTl := Lib.hid hTl
          replace hTi := Lib.hid hTi
          replace hbs := Lib.hid hbs
          replace hsm := Lib.hid hsm
          replace hMO := Lib.hid hMO
          replace hM14 := Lib.hid hM14
          clear hE hg hMe2 hft hLb hLv hLt
          obtain ⟨d0, d1, d2, d3, d4, d5, d6⟩ := blk7 kz
          go_wp2_with fail
          refine (hEn.out _ hW.out).mono ?_
          rintro e w7 ⟨Ag, cg, rfl, hv, hel, hcg, -⟩
          rw [hLl.out] at hcg ⊢
          replace hel := Lib.hid hel
          replace hb := below_next hb hb.size hv
          replace kp := keeps hv kp
          replace kz := keeps hv kz
          replace hA' := Lib.hid (hA'.out.up hv)
          replace hW := Lib.hid (hW.out.up hv)
          clear hv d0 d1 d2 d3 d4 d5 d6 hEn
          go_upto_region 10 with (fail)
          refine seg_start 11 (by kernel_rfl) (by decide) ?_
          intro v0 hv
          replace hel := Lib.hid (hel.out.up hv)
          replace hb := below_next hb hb.size hv
          replace kp := keeps hv kp
          replace kz := keeps hv kz
          replace hA' := Lib.hid (hA'.out.up hv)
          replace hW := Lib.hid (hW.out.up hv)
          clear hv
          refine seg_batch 6 [0, 1, 2, 3, 4] (by kernel_rfl) rfl (by kernel_rfl) (by kernel_rfl) (by kernel_rfl) ?_
          apply Exists.intro
          refine ⟨fun ι _ φ hφ => ?_, fun v1 hv => ?_⟩
          · have dd := fun i => blk7 (keeps (hφ.old i) kz)
            have d0 := fun i => (dd i).1
            have d1 := fun i => (dd i).2.1
            have d2 := fun i => (dd i).2.2.1
            have d3 := fun i => (dd i).2.2.2.1
            have d4 := fun i => (dd i).2.2.2.2.1
            have d5 := fun i => (dd i).2.2.2.2.2.1
            have d6 := fun i => (dd i).2.2.2.2.2.2
            clear dd
            repeat (refine pick_step rfl ?_; go_big_quiet_step ((go_at_call 11; exact flow_call hφ (hRf.out _))))
            exact pick_end
          replace hel := Lib.hid (hel.out.up hv)
          replace hb := below_next hb hb.size hv
          replace kp := keeps hv kp
          replace kz := keeps hv kz
          replace hA' := Lib.hid (hA'.out.up hv)
          replace hW := Lib.hid (hW.out.up hv)
          clear hv
          refine seg_one 5 _ (by decide) rfl (by kernel_rfl) ?_
          intro v2 K' hv hK
          replace hel := Lib.hid (hel.out.up hv)
          replace hb := below_next hb hb.size hv
          replace kp := keeps hv kp
          replace kz := keeps hv kz
          replace hA' := Lib.hid (hA'.out.up hv)
          replace hW := Lib.hid (hW.out.up hv)
          clear hv
          replace hK := Lib.hid hK
          go_simp
          refine (hEr.out v2 hW.out).mono ?_
          rintro e v3 ⟨Ar, cr, rfl, hv, hwr⟩
          rw [hLl.out]
          refine hK.out _ _ hv ?_
          clear hK K'
          replace hel := Lib.hid (hel.out.up hv)
          replace hb := below_next hb hb.size hv
          replace kp := keeps hv kp
          replace kz := keeps hv kz
          replace hA' := Lib.hid (hA'.out.up hv)
          replace hW := Lib.hid (hW.out.up hv)
          clear hv
          refine seg_batch 0 [6, 7, 8, 9, 10] (by kernel_rfl) rfl (by kernel_rfl) (by kernel_rfl) (by kernel_rfl) ?_
          apply Exists.intro
          refine ⟨fun ι _ φ hφ => ?_, fun v4 hv => ?_⟩
          · repeat (refine pick_step rfl ?_; go_big_quiet_step (fail))
            exact pick_end
          replace hwr := Lib.hid (hwr.up hv)
          replace hel := Lib.hid (hel.out.up hv)
          replace hb := below_next hb hb.size hv
          replace kp := keeps hv kp
          replace kz := keeps hv kz
          replace hA' := Lib.hid (hA'.out.up hv)
          replace hW := Lib.hid (hW.out.up hv)
          clear hv
          refine seg_done rfl (by kernel_rfl) ?_
          intro v5 hv
          replace hwr := Lib.hid (hwr.out.up hv)
          replace hel := Lib.hid (hel.out.up hv)
          replace hb := below_next hb hb.size hv
          replace kp := keeps hv kp
          replace kz := keeps hv kz
          replace hA' := Lib.hid (hA'.out.up hv)
          replace hW := Lib.hid (hW.out.up hv)
          clear hv
          clear hEr v0 v1 v2 v3 v4
          go_wp2
          go_loopw [73] (fun i wr => ∃ j : Nat, j ≤ I ∧ i = .int .i64 (j : Int) ∧ Below w.heap.size w wr ∧ Trip wr g c X A N cp A' N' cp' ∧ wr.heap[q]? = some (.cells (tcells y D M dp).toArray 48 (0, 0)) ∧ Hid (WordsAt wr A' zs') ∧ Hid (WordsAt wr D zs) ∧ Hid (ElemsAt wr Ag LL) ∧ Hid (WordsAt wr Ar LL)) (fun i _ => I - (intOf i).toNat)
          case atStart => exact ⟨0, Nat.zero_le _, rfl, hb, kp, kz, hA', hW, hel, hwr⟩
          case round =>
            clear hb kp kz hA' hW hel hwr
            obtain ⟨j, hj, rfl, hb, kp, kz, hA', hW, hel, hwr⟩ := hrel
            by_cases hltj : j < I
            · have e1 : (j : Int) < (I : Int) := by omega
              have e0 : (0 : Int) ≤ (j : Int) := by omega
              obtain ⟨p, o, rfl, hc0, hc1⟩ := hel.out j (by rw [hLl.out]; exact hltj)
              obtain ⟨p2, o2, rfl, hc2⟩ := hwr.out j (by rw [hLl.out]; exact hltj)
              obtain ⟨hlo, hhi⟩ := hbs.out j hltj
              rw [hlo] at hc0
              rw [hhi] at hc1
              generalize LL.getD j 0 = z at *
              clear hlo hhi
              go_upto_region 16 with (fail)
              refine wp_region_flow0 (by kernel_rfl) (by kernel_rfl) ?_
              intro ι _ φ hφ
              have q0 := fun i => hφ.cell hc0 i
              have q1 := fun i => hφ.cell hc1 i
              have q2 := fun i => hφ.cell hc2 i
              repeat (go_big_quiet_step (fail))
              refine wpQuiet_nil ?_
              intro w13 hv
              replace hwr := Lib.hid (hwr.out.up hv)
              replace hel := Lib.hid (hel.out.up hv)
              replace hb := below_next hb hb.size hv
              replace kp := keeps hv kp
              replace kz := keeps hv kz
              replace hA' := Lib.hid (hA'.out.up hv)
              replace hW := Lib.hid (hW.out.up hv)
              clear hv
              clear q0 q1 q2 hc0 hc1 hc2 hφ
              go_wp2
              exact ⟨⟨j + 1, by omega, by go_num, hb, kp, kz, hA', hW, hel, hwr⟩, by simp [intOf]; omega⟩
            · obtain rfl : I = j := by omega
              have e1 : ¬ (I : Int) < (I : Int) := by omega
              clear hwr
              obtain ⟨d0, d1, d2, d3, d4, d5, d6⟩ := blk7 kz
              go_wp2_with fail
              refine (hT.out _ _ _ hcg hel.out).mono ?_
              rintro e w7 ⟨gs, rfl, hv, hgs, hrow⟩
              rw [hTl.out]
              replace hel := Lib.hid (hel.out.up hv)
              replace hb := below_next hb hb.size hv
              replace kp := keeps hv kp
              replace kz := keeps hv kz
              replace hA' := Lib.hid (hA'.out.up hv)
              replace hW := Lib.hid (hW.out.up hv)
              clear hv
              clear d0 d1 d2 d3 d4 d5 d6 hT hgs
              obtain ⟨d0, d1, d2, d3, d4, d5, d6⟩ := blk7 kz
              go_wp2_with fail
              refine call_then (hV.out _ _ _ hcg hel.out) ?_
              intro w8 hv
              replace hrow := hrow.up hv
              replace hel := Lib.hid (hel.out.up hv)
              replace hb := below_next hb hb.size hv
              replace kp := keeps hv kp
              replace kz := keeps hv kz
              replace hA' := Lib.hid (hA'.out.up hv)
              replace hW := Lib.hid (hW.out.up hv)
              clear hv
              clear d0 d1 d2 d3 d4 d5 d6 hV hel
              obtain ⟨d0, d1, d2, d3, d4, d5, d6⟩ := blk7 kz
              go_wp2_with fail
              refine call_then (hO.out _) ?_
              intro w9 hv
              replace hrow := hrow.up hv
              replace hb := below_next hb hb.size hv
              replace kp := keeps hv kp
              replace kz := keeps hv kz
              replace hA' := Lib.hid (hA'.out.up hv)
              replace hW := Lib.hid (hW.out.up hv)
              clear hv d0 d1 d2 d3 d4 d5 d6 hO
              go_wp2
              go_loopw [115] (fun i wr => ∃ j : Nat, j ≤ O ∧ i = .int .i64 (j : Int) ∧ Below w.heap.size w wr ∧ Trip wr g c X A N cp A' N' cp' ∧ wr.heap[q]? = some (.cells (tcells y D M dp).toArray 48 (0, 0)) ∧ Hid (WordsAt wr A' zs') ∧ Hid (WordsAt wr D zs) ∧ Row wr gs S) (fun i _ => O - (intOf i).toNat)
              case atStart => exact ⟨0, Nat.zero_le _, rfl, hb, kp, kz, hA', hW, hrow⟩
              case round =>
                clear hb kp kz hA' hW hrow
                obtain ⟨j, hj, rfl, hb, kp, kz, hA', hW, hrow⟩ := hrel
                by_cases hltj : j < O
                · have e1 : (j : Int) < (O : Int) := by omega
                  have e0 : (0 : Int) ≤ (j : Int) := by omega
                  have r0 := hrow.lo (k := j) (by rw [hTl.out]; exact hltj)
                  have r1 := hrow.hi (k := j) (by rw [hTl.out]; exact hltj)
                  rw [hTi.out j hltj] at r0 r1
                  have qg := lt_of_get hrow
                  obtain ⟨d0, d1, d2, d3, d4, d5, d6⟩ := blk7 kz
                  have qq := lt_of_get kz
                  have qn := Nat.ne_of_lt qq
                  have hv := (Below.refl wr.heap.size wr).alloc (Nat.le_refl _) (.cells #[.int .u64 (lo (sumN y zs j)), .int .u64 (hi (sumN y zs j))] 56)
                  have hend := Lib.hid (EncEnd.mk (below_next hb hb.size hv) (show Trip _ _ _ _ _ _ _ _ _ _ from keeps hv kp) (keeps hv kz) (hA'.out.up hv) (hW.out.up hv) (hrow.up hv))
                  by_cases h4 : y.k = 4
                  · have hs := hsm.out j (.inl h4)
                    rw [hs.1] at r0 hend
                    rw [hs.2] at r1 hend
                    obtain rfl : M = 1 := hM14.out h4
                    obtain ⟨p, o, rfl, hcw'⟩ := hW.out 0 (by rw [hMl.out]; omega)
                    have hcw : wr.cell? ⟨p, o, none⟩ = some (.int .u64 (zs.getD 0 0)) := hcw'
                    clear hcw'
                    have hlw := World.block_lt_of_cell? _ _ hcw
                    simp only at hlw
                    have hnw := Nat.ne_of_lt hlw
                    have n4 : (y.k != 4) = false := by simp [h4]
                    have hjw : IntKind.u64.wrap (j : Int) = (j : Int) := by rw [IntKind.wrap_u64]; omega
                    by_cases hc : (j : Int) = zs.getD 0 0
                    · have hsv : sumN y zs j = 1 := by unfold sumN; rw [if_pos h4, if_pos hc]
                      rw [hsv] at r0 hend
                      have b3 : ((j : Int) == zs.getD 0 0) = true := by simpa using hc
                      generalize zs.getD 0 0 = z at *
                      clear hc h4 hs hsv hv hb kp kz hA' hW
                      go_wp2
                      exact ⟨⟨j + 1, by omega, by go_num, hend.out.1, hend.out.2, hend.out.3, Lib.hid hend.out.4, Lib.hid hend.out.5, hend.out.6⟩, by simp [intOf]; omega⟩
                    · have hsv : sumN y zs j = 0 := by unfold sumN; rw [if_pos h4, if_neg hc]
                      rw [hsv] at r0 hend
                      have b3 : ((j : Int) == zs.getD 0 0) = false := by simpa using hc
                      generalize zs.getD 0 0 = z at *
                      clear hc h4 hs hsv hv hb kp kz hA' hW
                      go_wp2
                      exact ⟨⟨j + 1, by omega, by go_num, hend.out.1, hend.out.2, hend.out.3, Lib.hid hend.out.4, Lib.hid hend.out.5, hend.out.6⟩, by simp [intOf]; omega⟩
                  · have hMO2 := hMO.out h4
                    have hs := hsm.out j (.inr (by omega))
                    rw [hs.1] at r0 hend
                    rw [hs.2] at r1 hend
                    obtain ⟨p, o, rfl, hcw⟩ := hW.out j (by rw [hMl.out]; omega)
                    have hlw := World.block_lt_of_cell? _ _ hcw
                    simp only at hlw
                    have hnw := Nat.ne_of_lt hlw
                    have n4 : (y.k != 4) = true := by simpa using h4
                    have hsv : sumN y zs j = zs.getD j 0 := by unfold sumN; rw [if_neg h4]
                    rw [hsv] at r0 hend
                    have e2 : (j : Int) < (M : Int) := by omega
                    generalize zs.getD j 0 = z at *
                    clear h4 hs hsv hMO2 hv hb kp kz hA' hW
                    go_wp2
                    exact ⟨⟨j + 1, by omega, by go_num, hend.out.1, hend.out.2, hend.out.3, Lib.hid hend.out.4, Lib.hid hend.out.5, hend.out.6⟩, by simp [intOf]; omega⟩
                · obtain rfl : O = j := by omega
                  have e1 : ¬ (O : Int) < (O : Int) := by omega
                  go_wp2
                  exact ⟨⟨n + 1, by omega, by go_num, hb, kp, hA'⟩, by simp [intOf]; omega⟩
        · have hEn := Lib.hid (fun w hA => enc_bad y zs D M dp hMl.out (by unfold maxLen; omega) hzo.out E hE hEz w hA)
          have hEr := Lib.hid (fun w hA => renc_bad y zs D M dp hMl.out hzo.out E hE hEz w hA)
          unfold cvl at hEn hRf
          have n0 : (E != 0) = true := by simpa using hEz
          replace hE := Lib.hid hE
          clear hEz
          obtain ⟨d0, d1, d2, d3, d4, d5, d6⟩ := blk7 kz
          go_wp2_with fail
          refine call_then (hEn.out _ hW.out) ?_
          intro w7 hv
          replace hb := below_next hb hb.size hv
          replace kp := keeps hv kp
          replace kz := keeps hv kz
          replace hA' := Lib.hid (hA'.out.up hv)
          replace hW := Lib.hid (hW.out.up hv)
          clear hv d0 d1 d2 d3 d4 d5 d6 hEn
          go_upto_region 10 with (fail)
          refine seg_start 11 (by kernel_rfl) (by decide) ?_
          intro v0 hv
          replace hb := below_next hb hb.size hv
          replace kp := keeps hv kp
          replace kz := keeps hv kz
          replace hA' := Lib.hid (hA'.out.up hv)
          replace hW := Lib.hid (hW.out.up hv)
          clear hv
          refine seg_batch 6 [0, 1, 2, 3, 4] (by kernel_rfl) rfl (by kernel_rfl) (by kernel_rfl) (by kernel_rfl) ?_
          apply Exists.intro
          refine ⟨fun ι _ φ hφ => ?_, fun v1 hv => ?_⟩
          · have dd := fun i => blk7 (keeps (hφ.old i) kz)
            have d0 := fun i => (dd i).1
            have d1 := fun i => (dd i).2.1
            have d2 := fun i => (dd i).2.2.1
            have d3 := fun i => (dd i).2.2.2.1
            have d4 := fun i => (dd i).2.2.2.2.1
            have d5 := fun i => (dd i).2.2.2.2.2.1
            have d6 := fun i => (dd i).2.2.2.2.2.2
            clear dd
            repeat (refine pick_step rfl ?_; go_big_quiet_step ((go_at_call 11; exact flow_call hφ (hRf.out _))))
            exact pick_end
          replace hb := below_next hb hb.size hv
          replace kp := keeps hv kp
          replace kz := keeps hv kz
          replace hA' := Lib.hid (hA'.out.up hv)
          replace hW := Lib.hid (hW.out.up hv)
          clear hv
          refine seg_one 5 _ (by decide) rfl (by kernel_rfl) ?_
          intro v2 K' hv hK
          replace hb := below_next hb hb.size hv
          replace kp := keeps hv kp
          replace kz := keeps hv kz
          replace hA' := Lib.hid (hA'.out.up hv)
          replace hW := Lib.hid (hW.out.up hv)
          clear hv
          replace hK := Lib.hid hK
          go_simp
          refine (hEr.out v2 hW.out).mono ?_
          rintro e v3 ⟨rfl, hv⟩
          refine hK.out _ _ hv ?_
          clear hK K'
          replace hb := below_next hb hb.size hv
          replace kp := keeps hv kp
          replace kz := keeps hv kz
          replace hA' := Lib.hid (hA'.out.up hv)
          replace hW := Lib.hid (hW.out.up hv)
          clear hv
          refine seg_batch 0 [6, 7, 8, 9, 10] (by kernel_rfl) rfl (by kernel_rfl) (by kernel_rfl) (by kernel_rfl) ?_
          apply Exists.intro
          refine ⟨fun ι _ φ hφ => ?_, fun v4 hv => ?_⟩
          · repeat (refine pick_step rfl ?_; go_big_quiet_step (fail))
            exact pick_end
          replace hb := below_next hb hb.size hv
          replace kp := keeps hv kp
          replace kz := keeps hv kz
          replace hA' := Lib.hid (hA'.out.up hv)
          replace hW := Lib.hid (hW.out.up hv)
          clear hv
          refine seg_done rfl (by kernel_rfl) ?_
          intro v5 hv
          replace hb := below_next hb hb.size hv
          replace kp := keeps hv kp
          replace kz := keeps hv kz
          replace hA' := Lib.hid (hA'.out.up hv)
          replace hW := Lib.hid (hW.out.up hv)
          clear hv
          go_wp2
          go_loopw [73] (fun i wr => i = .int .i64 0 ∧ wr = v5) (fun i _ => 0)
          case atStart => exact ⟨rfl, rfl⟩
          case round =>
            obtain ⟨rfl, rfl⟩ := hrel
            go_wp2
            exact ⟨⟨n + 1, by omega, by go_num, hb, kp, hA'⟩, by simp [intOf]; omega⟩
      · obtain rfl : n = 3 := by omega
        go_wp2
        go_ret
        exact ⟨rfl, hb⟩
end Go.Proofs.Ytgdokfchfgnbbaa
