/-
  CircuitSizes' walk.
-/
import Derived.Test.YtgdokfchfgnbbaaCjR
import Derived.Test.YtgdokfchfgnbbaaBA
import Derived.Test.YtgdokfchfgnbbaaBX
namespace Go.Proofs.Ytgdokfchfgnbbaa
open Go.RowKit Flow F
set_option linter.unusedVariables false
set_option linter.unusedSimpArgs false
attribute [local go_sem] eql_elem

theorem blk6r {w : World} {p : Nat} {y : Ci} {t : TypeId} {z : Nat × Nat} (h : w.heap[p]? = some (.cells #[.int .i64 y.k, .int .i64 y.f, .int .i64 y.b, .int .i64 y.l, .int .i64 y.w, .int .i64 y.c] t z)) :
    w.cell? ⟨p, 0, none⟩ = some (.int .i64 y.k) ∧ w.cell? ⟨p, 1, none⟩ = some (.int .i64 y.f) ∧ w.cell? ⟨p, 2, none⟩ = some (.int .i64 y.b) ∧ w.cell? ⟨p, 3, none⟩ = some (.int .i64 y.l) ∧ w.cell? ⟨p, 4, none⟩ = some (.int .i64 y.w) ∧ w.cell? ⟨p, 5, none⟩ = some (.int .i64 y.c) := blk6 h
theorem blk6y {w : World} {p : Nat} {y : Ci} {t : TypeId} {z : Nat × Nat} (h : w.heap[p]? = some (.cells (ccells y).toArray t z)) :
    w.cell? ⟨p, 0, none⟩ = some (.int .u8 y.k) ∧ w.cell? ⟨p, 1, none⟩ = some (.int .u8 y.f) ∧ w.cell? ⟨p, 2, none⟩ = some (.int .i64 y.b) ∧ w.cell? ⟨p, 3, none⟩ = some (.int .i64 y.l) ∧ w.cell? ⟨p, 4, none⟩ = some (.int .i64 y.w) ∧ w.cell? ⟨p, 5, none⟩ = some (.int .i64 y.c) := blk6 h
set_option maxRecDepth 20000 in
set_option maxHeartbeats 8000000 in
theorem sizes_walk (c : Ci) (K F B L W C : Int) (ck0 : 0 ≤ c.k) (ck1 : c.k ≤ 255) (cf0 : 0 ≤ c.f) (cf1 : c.f ≤ 255) (k0 : 0 ≤ K) (k1 : K ≤ 255) (f0 : 0 ≤ F) (f1 : F ≤ 255) (b0 : 0 ≤ B) (b1 : B ≤ 255) (l0 : 0 ≤ L) (l1 : L ≤ 255) (w0 : 0 ≤ W) (w1 : W ≤ 255) (c0 : 0 ≤ C) (c1 : C ≤ 255) (w : World) :
    Calls Try.prog 3 #[cvl c, svl K F B L W C] w fun e w' => e = .returned (.bool true) ∧ Below w.heap.size w w' := by
  have hAw := Lib.hid (fun w => awake_ok w)
  have hS := Lib.hid (fun w => small_any K F B L W C k0 k1 f0 f1 b0 b1 l0 l1 w0 w1 c0 c1 w)
  obtain ⟨X, hX⟩ : ∃ X, smallC K F B L W C = X := ⟨_, rfl⟩
  have hXg : X.Good := by rw [← hX]; exact small_good _ _ _ _ _ _
  rw [hX] at hS
  clear hX k0 k1 f0 f1 b0 b1 l0 l1 w0 w1 c0 c1
  have hCc := Lib.hid (fun w => ccheck_any c.k c.f c.b c.l c.w c.c w)
  have hRc := Lib.hid (fun w => ref_any c ck0 ck1 cf0 cf1 w)
  have hRk := Lib.hid (fun w => rcheck_any c.k c.f c.b c.l c.w c.c w)
  rw [show (Ci.mk c.k c.f c.b c.l c.w c.c) = c from rfl] at hCc hRk
  have hRX := Lib.hid (fun w => ref_any X (by have := hXg.fits.k1; omega) (by have := hXg.fits.k5; omega) (by have := hXg.f; omega) (by have := hXg.f; omega) w)
  have hRXk := Lib.hid (fun w => rcheck_any X.k X.f X.b X.l X.w X.c w)
  rw [show (Ci.mk X.k X.f X.b X.l X.w X.c) = X from rfl, hXg.code] at hRXk
  unfold svl cvl rvl at *
  replace hXg := Lib.hid hXg
  go_enter Try.func3, Try.ntmps3
  go_wp2_with fail
  refine name_calls (fun w1 => Below w.heap.size w w1 ∧ w1.heap[w.heap.size]? = some (.cells #[.int .u8 c.k, .int .u8 c.f, .int .i64 c.b, .int .i64 c.l, .int .i64 c.w, .int .i64 c.c] 25 (0, 0)) ∧ w1.heap[w.heap.size + 1]? = some (.cells #[.int .u8 K, .int .u8 F, .int .u8 B, .int .u8 L, .int .u8 W, .int .u8 C] 27 (0, 0))) ⟨((Below.refl _ _).alloc (Nat.le_refl _) _).alloc (by simp) _, alloc_keeps (alloc_at rfl), alloc_at (by simp)⟩ ?_
  rintro w1 ⟨hb, kc, ks⟩
  refine call_then (hAw.out _) ?_
  intro w2 hv
  replace hb := below_next hb hb.size hv
  replace kc := keeps hv kc
  replace ks := keeps hv ks
  clear hv
  go_upto_region 3 with (fail)
  refine wp_region_flow0 (by kernel_rfl) (by kernel_rfl) ?_
  intro ι _ φ hφ
  have q := fun i => blk6 (keeps (hφ.old i) kc)
  have q0 := fun i => (q i).1
  have q1 := fun i => (q i).2.1
  have q2 := fun i => (q i).2.2.1
  have q3 := fun i => (q i).2.2.2.1
  have q4 := fun i => (q i).2.2.2.2.1
  have q5 := fun i => (q i).2.2.2.2.2
  clear q
  repeat (go_big_quiet_step ((first
    | (go_at_call 10; exact flow_call hφ (hCc.out _))
    | (go_at_call 11; exact flow_call hφ (hRc.out _))
    | (go_at_call 12; exact flow_call hφ (hRk.out _)))))
  refine wpQuiet_nil ?_
  intro w3 hv
  replace hb := below_next hb hb.size hv
  replace kc := keeps hv kc
  replace ks := keeps hv ks
  clear hv
  clear q0 q1 q2 q3 q4 q5 hφ hCc hRc hRk
  go_upto_region 5 with (fail)
  refine seg_start 6 (by kernel_rfl) (by decide) ?_
  intro v0 hv
  replace hb := below_next hb hb.size hv
  replace kc := keeps hv kc
  replace ks := keeps hv ks
  clear hv
  refine seg_batch 2 [0, 1, 2, 5] (by kernel_rfl) rfl (by kernel_rfl) (by kernel_rfl) (by kernel_rfl) ?_
  apply Exists.intro
  refine ⟨fun ι _ φ hφ => ?_, fun v1 hv => ?_⟩
  · have q := fun i => blk6 (keeps (hφ.old i) kc)
    have q0 := fun i => (q i).1
    have q1 := fun i => (q i).2.1
    have q2 := fun i => (q i).2.2.1
    have q3 := fun i => (q i).2.2.2.1
    have q4 := fun i => (q i).2.2.2.2.1
    have q5 := fun i => (q i).2.2.2.2.2
    clear q
    have s := fun i => blk6 (keeps (hφ.old i) ks)
    have s0 := fun i => (s i).1
    have s1 := fun i => (s i).2.1
    have s2 := fun i => (s i).2.2.1
    have s3 := fun i => (s i).2.2.2.1
    have s4 := fun i => (s i).2.2.2.2.1
    have s5 := fun i => (s i).2.2.2.2.2
    clear s
    repeat (refine pick_step rfl ?_; go_big_quiet_step ((go_at_call 13; exact flow_call hφ (hS.out _))))
    exact pick_end
  replace hb := below_next hb hb.size hv
  replace kc := keeps hv kc
  replace ks := keeps hv ks
  clear hv
  refine seg_one 3 _ (by decide) rfl (by kernel_rfl) ?_
  intro v2 K' hv hK
  replace hb := below_next hb hb.size hv
  replace kc := keeps hv kc
  replace ks := keeps hv ks
  clear hv
  replace hK := Lib.hid hK
  go_simp
  refine hK.out _ _ ((Below.refl _ _).alloc (Nat.le_refl _) _) ?_
  clear hK
  have kp : Pair (v2.alloc (.cells #[.int .u8 c.k, .int .u8 c.f, .int .i64 c.b, .int .i64 c.l, .int .i64 c.w, .int .i64 c.c, .int .u8 X.k, .int .u8 X.f, .int .i64 X.b, .int .i64 X.l, .int .i64 X.w, .int .i64 X.c] 25)) v2.heap.size c X := alloc_at rfl
  replace hb := hb.alloc hb.size (.cells #[.int .u8 c.k, .int .u8 c.f, .int .i64 c.b, .int .i64 c.l, .int .i64 c.w, .int .i64 c.c, .int .u8 X.k, .int .u8 X.f, .int .i64 X.b, .int .i64 X.l, .int .i64 X.w, .int .i64 X.c] 25)
  replace ks := alloc_keeps (o := .cells #[.int .u8 c.k, .int .u8 c.f, .int .i64 c.b, .int .i64 c.l, .int .i64 c.w, .int .i64 c.c, .int .u8 X.k, .int .u8 X.f, .int .i64 X.b, .int .i64 X.l, .int .i64 X.w, .int .i64 X.c] 25) ks
  clear kc
  generalize (v2.alloc (.cells #[.int .u8 c.k, .int .u8 c.f, .int .i64 c.b, .int .i64 c.l, .int .i64 c.w, .int .i64 c.c, .int .u8 X.k, .int .u8 X.f, .int .i64 X.b, .int .i64 X.l, .int .i64 X.w, .int .i64 X.c] 25)) = v3 at *
  generalize v2.heap.size = g at *
  refine seg_batch 0 [4] (by kernel_rfl) rfl (by kernel_rfl) (by kernel_rfl) (by kernel_rfl) ?_
  apply Exists.intro
  refine ⟨fun ι _ φ hφ => ?_, fun v4 hv => ?_⟩
  · repeat (refine pick_step rfl ?_; go_big_quiet_step (fail))
    exact pick_end
  replace hb := below_next hb hb.size hv
  replace kp := keeps hv kp
  replace ks := keeps hv ks
  clear hv
  refine seg_done rfl (by kernel_rfl) ?_
  intro v5 hv
  replace hb := below_next hb hb.size hv
  replace kp := keeps hv kp
  replace ks := keeps hv ks
  clear hv
  clear w1 w2 w3 v0 v1 v2 v3 v4
  go_wp2
  go_loopw [24] (fun i wr => ∃ n : Nat, n ≤ 2 ∧ i = .int .i64 (n : Int) ∧ Below w.heap.size w wr ∧ Pair wr g c X ∧ wr.heap[w.heap.size + 1]? = some (.cells #[.int .u8 K, .int .u8 F, .int .u8 B, .int .u8 L, .int .u8 W, .int .u8 C] 27 (0, 0))) (fun i _ => 2 - (intOf i).toNat)
  case atStart => exact ⟨0, Nat.zero_le _, rfl, hb, kp, ks⟩
  case round =>
    clear hb kp ks
    obtain ⟨n, hn, rfl, hb, kp, ks⟩ := hrel
    by_cases hlt : n < 2
    · have j1 : (n : Int) < 2 := by omega
      have j0 : (0 : Int) ≤ (n : Int) := by omega
      have hat := kp.at_ n hlt
      obtain ⟨y, hy, hyk⟩ : ∃ y : Ci, (if n = 0 then c else X) = y ∧ (0 ≤ y.k ∧ y.k ≤ 255 ∧ 0 ≤ y.f ∧ y.f ≤ 255) := ⟨_, rfl, by
        have h1 := hXg.out.fits.k1
        have h2 := hXg.out.fits.k5
        have h3 := hXg.out.f
        split <;> omega⟩
      rw [hy] at hat
      have hks : (wr.alloc (.cells zero6.toArray 25 (0, 0))).heap[wr.heap.size]? = some (.cells zero6.toArray 25 (0, 0)) := alloc_at rfl
      replace hy := Lib.hid hy
      replace hyk := Lib.hid hyk
      go_upto_region 8 with (first
        | (refine list_load_mid _ _ _ _ _ _ rfl rfl rfl hat Try.underlying25 rfl info_circuit ?_)
        | (refine list_store_whole _ _ _ _ (ccells y) zero6 25 rfl rfl rfl rfl hks rfl info_circuit (ccells_one y) ?_; intro w6 hbut kz))
      have kp6 : Pair w6 g c X := (hbut.block g (by have := lt_of_get kp; simp; omega) (Nat.ne_of_lt (lt_of_get kp))).trans (alloc_keeps kp)
      have ks6 := (hbut.block (w.heap.size + 1) (by have := lt_of_get ks; simp; omega) (Nat.ne_of_lt (lt_of_get ks))).trans (alloc_keeps ks)
      have hb6 : Below w.heap.size w w6 := hbut.below (hb.alloc hb.size _) hb.size (by have := hb.size; simp; omega)
      clear hbut hks hat hb kp ks
      generalize wr.heap.size = q at *
      have hR := Lib.hid (fun w => ref_any y hyk.out.1 hyk.out.2.1 hyk.out.2.2.1 hyk.out.2.2.2 w)
      have hC := Lib.hid (fun w => rcheck_any y.k y.f y.b y.l y.w y.c w)
      rw [show (Ci.mk y.k y.f y.b y.l y.w y.c) = y from rfl] at hC
      unfold rvl cvl at hR
      obtain ⟨d0, d1, d2, d3, d4, d5⟩ := blk6y kz
      go_wp2_with fail
      refine call_then (hR.out _) ?_
      intro w7 hv
      replace hb6 := below_next hb6 hb6.size hv
      replace kp6 := keeps hv kp6
      replace kz := keeps hv kz
      replace ks6 := keeps hv ks6
      clear hv d0 d1 d2 d3 d4 d5 hR
      go_upto_region 9 with (fail)
      refine name_wp (fun w8 => Below w.heap.size w w8 ∧ Pair w8 g c X ∧ w8.heap[q]? = some (.cells (ccells y).toArray 25 (0, 0)) ∧ w8.heap[w.heap.size + 1]? = some (.cells #[.int .u8 K, .int .u8 F, .int .u8 B, .int .u8 L, .int .u8 W, .int .u8 C] 27 (0, 0)) ∧ w8.heap[w7.heap.size]? = some (.cells #[.int .i64 y.k, .int .i64 y.f, .int .i64 y.b, .int .i64 y.l, .int .i64 y.w, .int .i64 y.c] 32 (0, 0))) ⟨hb6.alloc hb6.size _, alloc_keeps kp6, alloc_keeps kz, alloc_keeps ks6, alloc_at rfl⟩ ?_
      clear hb6 kp6 kz ks6
      generalize w7.heap.size = r at *
      rintro w8 ⟨hb, kp, kz, ks, kr⟩
      clear w6 w7
      obtain ⟨r0, r1, r2, r3, r4, r5⟩ := blk6r kr
      go_wp2_with fail
      refine call_then (hC.out _) ?_
      intro w9 hv
      replace hb := below_next hb hb.size hv
      replace kp := keeps hv kp
      replace kz := keeps hv kz
      replace ks := keeps hv ks
      replace kr := keeps hv kr
      clear hv r0 r1 r2 r3 r4 r5 hC
      by_cases hc0 : y.code = 0
      · have n0 : (y.code != 0) = false := by simp [hc0]
        have hg := Ci.good hc0
        replace hc0 := Lib.hid hc0
        have hGd := Lib.hid (fun w => gadget_any y hg w)
        have h15 := Lib.hid (inup_any y hg)
        have h16 := Lib.hid (fun w => rin_any y.k y.f y.b y.l y.w y.c hg.fits w)
        have h17 := Lib.hid (out_any y hg)
        have h18 := Lib.hid (rout_any y hg)
        have h19 := Lib.hid (callsup_any y hg)
        have h20 := Lib.hid (fun w => rcalls_any y.k y.f y.b y.l y.w y.c hg.fits w)
        have h21 := Lib.hid (joint_any y hg)
        have h22 := Lib.hid (rjoint_any y hg)
        have h23 := Lib.hid (domain_any y hg)
        have h24 := Lib.hid (rdomain_any y hg)
        have h25 := Lib.hid (fun (v : Value) (w : World) hv => garity_any y hg (v := v) (w := w) hv)
        have h26 := Lib.hid (rarity_any y hg)
        have h27 := Lib.hid (fun (v : Value) (w : World) hv => gdegree_any y (v := v) (w := w) hv)
        have h28 := Lib.hid (fun (v : Value) (w : World) hv => gchk_any y hg (v := v) (w := w) hv)
        have h29 := Lib.hid (proof_any y hg)
        have h30 := Lib.hid (verifier_any y hg)
        have h31 := Lib.hid (fun w => most_any y hg w)
        rw [show (Ci.mk y.k y.f y.b y.l y.w y.c) = y from rfl] at h16 h20
        have hRle := arityN_le hg
        have hDle := pow2_le (n := y.callsN + 1)
        have hfb := hg.fits.b
        have hk15 := And.intro hg.fits.k1 hg.fits.k5
        unfold cvl NumBy at h15 h17 h19 h21 h23 h29 h30
        unfold rvl NumBy at h18 h22 h24 h26
        unfold cvl at hGd h31
        unfold Ci.proofN at h29
        unfold Ci.mostN at h31
        generalize pow2 (y.callsN + 1) = D at *
        generalize y.arityN = R at *
        generalize y.inN = I at *
        generalize y.outN = O at *
        generalize y.callsN = Q at *
        generalize y.jointN = J at *
        obtain ⟨D1, hD1⟩ : ∃ D1, D - 1 = D1 := ⟨_, rfl⟩
        have z1 : IntKind.i64.wrap ((D : Int) - 1) = (D1 : Int) := wrap_i (by omega) (by omega)
        have z1b : (D : Int) - 1 = (D1 : Int) := by omega
        obtain ⟨T, hT⟩ : ∃ T, 2 * D1 = T := ⟨_, rfl⟩
        have z2 : IntKind.i64.wrap (2 * (D1 : Int)) = (T : Int) := wrap_i (by omega) (by omega)
        have z2b : 2 * (D1 : Int) = (T : Int) := by omega
        obtain ⟨U, hU⟩ : ∃ U, R + T = U := ⟨_, rfl⟩
        have z3 : IntKind.i64.wrap ((R : Int) + (T : Int)) = (U : Int) := wrap_i (by omega) (by omega)
        have z3b : (R : Int) + (T : Int) = (U : Int) := by omega
        obtain ⟨V, hV⟩ : ∃ V, U + 1 = V := ⟨_, rfl⟩
        have z4 : IntKind.i64.wrap ((U : Int) + 1) = (V : Int) := wrap_i (by omega) (by omega)
        have z4b : (U : Int) + 1 = (V : Int) := by omega
        obtain ⟨R2, hR2⟩ : ∃ R2, R + 2 = R2 := ⟨_, rfl⟩
        have z5 : IntKind.i64.wrap ((R : Int) + 2) = (R2 : Int) := wrap_i (by omega) (by omega)
        have z5b : (R : Int) + 2 = (R2 : Int) := by omega
        rw [hD1, hT, hU, hV] at h29
        rw [hR2] at h30
        replace hT := Lib.hid hT
        replace hD1 := Lib.hid hD1
        replace hU := Lib.hid hU
        replace hV := Lib.hid hV
        replace hR2 := Lib.hid hR2
        clear hg
        obtain ⟨d0, d1, d2, d3, d4, d5⟩ := blk6y kz
        go_wp2_with fail
        refine (hGd.out _).mono ?_
        rintro e w10 ⟨a, gA, gn, gd, vc, rfl, hv, hgi⟩
        replace hb := below_next hb hb.size hv
        replace kp := keeps hv kp
        replace kz := keeps hv kz
        replace ks := keeps hv ks
        replace kr := keeps hv kr
        clear hv d0 d1 d2 d3 d4 d5 hGd
        go_upto_region 11 with (fail)
        refine name_wp (fun w8 => Below w.heap.size w w8 ∧ Pair w8 g c X ∧ w8.heap[q]? = some (.cells (ccells y).toArray 25 (0, 0)) ∧ w8.heap[w.heap.size + 1]? = some (.cells #[.int .u8 K, .int .u8 F, .int .u8 B, .int .u8 L, .int .u8 W, .int .u8 C] 27 (0, 0)) ∧ w8.heap[r]? = some (.cells #[.int .i64 y.k, .int .i64 y.f, .int .i64 y.b, .int .i64 y.l, .int .i64 y.w, .int .i64 y.c] 32 (0, 0)) ∧ w8.heap[w10.heap.size]? = some (.cells #[.int .u8 a, .slice gA gn gd, .int .i64 vc] 40 (0, 0)) ∧ GadIs y (.agg #[.int .u8 a, .slice gA gn gd, .int .i64 vc]) w8) ⟨hb.alloc hb.size _, alloc_keeps kp, alloc_keeps kz, alloc_keeps ks, alloc_keeps kr, alloc_at rfl, hgi.up ((Below.refl _ _).alloc (Nat.le_refl _) _)⟩ ?_
        clear hb kp kz ks kr hgi
        generalize w10.heap.size = gg at *
        rintro w11 ⟨hb, kp, kz, ks, kr, kg, hgi⟩
        clear w8 w9 w10
        go_upto_region 12 with (fail)
        simp only [List.append]
        refine wp_region_flow0 (by kernel_rfl) (by kernel_rfl) ?_
        intro ι _ φ hφ
        have dd := fun i => blk6y (keeps (hφ.old i) kz)
        have d0 := fun i => (dd i).1
        have d1 := fun i => (dd i).2.1
        have d2 := fun i => (dd i).2.2.1
        have d3 := fun i => (dd i).2.2.2.1
        have d4 := fun i => (dd i).2.2.2.2.1
        have d5 := fun i => (dd i).2.2.2.2.2
        clear dd
        have rr := fun i => blk6r (keeps (hφ.old i) kr)
        have r0 := fun i => (rr i).1
        have r1 := fun i => (rr i).2.1
        have r2 := fun i => (rr i).2.2.1
        have r3 := fun i => (rr i).2.2.2.1
        have r4 := fun i => (rr i).2.2.2.2.1
        have r5 := fun i => (rr i).2.2.2.2.2
        clear rr
        have gg' := fun i => blk3 (keeps (hφ.old i) kg)
        have g0 := fun i => (gg' i).1
        have g1 := fun i => (gg' i).2.1
        have g2 := fun i => (gg' i).2.2.1
        clear gg'
        have hgj := Lib.hid (fun i => hgi.up (hφ.old i))
        repeat (go_big_quiet_step ((first
          | (go_at_call 15; exact flow_call hφ (h15.out _))
          | (go_at_call 16; exact flow_call hφ (h16.out _))
          | (go_at_call 17; exact flow_call hφ (h17.out _))
          | (go_at_call 18; exact flow_call hφ (h18.out _))
          | (go_at_call 19; exact flow_call hφ (h19.out _))
          | (go_at_call 20; exact flow_call hφ (h20.out _))
          | (go_at_call 21; exact flow_call hφ (h21.out _))
          | (go_at_call 22; exact flow_call hφ (h22.out _))
          | (go_at_call 23; exact flow_call hφ (h23.out _))
          | (go_at_call 24; exact flow_call hφ (h24.out _))
          | (go_at_call 25; exact flow_call hφ (h25.out _ _ (hgj.out _)))
          | (go_at_call 26; exact flow_call hφ (h26.out _))
          | (go_at_call 27; exact flow_call hφ (h27.out _ _ (hgj.out _)))
          | (go_at_call 28; exact flow_call hφ (h28.out _ _ (hgj.out _)))
          | (go_at_call 29; exact flow_call hφ (h29.out _))
          | (go_at_call 30; exact flow_call hφ (h30.out _)))))
        refine wpQuiet_nil ?_
        intro w12 hv
        replace hb := below_next hb hb.size hv
        replace kp := keeps hv kp
        replace kz := keeps hv kz
        replace ks := keeps hv ks
        clear hv d0 d1 d2 d3 d4 d5 r0 r1 r2 r3 r4 r5 g0 g1 g2 hφ hgj kr kg hgi
        obtain ⟨d0, d1, d2, d3, d4, d5⟩ := blk6y kz
        clear h15 h16 h17 h18 h19 h20 h21 h22 h23 h24 h25 h26 h27 h28 h29 h30
        by_cases h23 : y.k = 2 ∨ y.k = 3
        · have hb2 := hfb h23
          rw [if_pos h23] at h31
          obtain ⟨nb, hnb⟩ := Int.eq_ofNat_of_zero_le (show 0 ≤ y.b by omega)
          rw [hnb] at d2 hb2
          have hnb2 : y.b.toNat = nb := by omega
          rw [hnb2] at h31
          have hp := pow_le32 (b := nb) (by omega)
          have hp1 := Nat.one_le_two_pow (n := nb)
          have hsh : ((1 : Int) * 2 ^ nb) = ((2 ^ nb : Nat) : Int) := by simp
          obtain ⟨Y, hY⟩ : ∃ Y, Y = 2 ^ nb := ⟨_, rfl⟩
          rw [← hY] at hp hp1 hsh h31
          have hwr : IntKind.u64.wrap ((1 : Int) * 2 ^ nb) = (Y : Int) := by rw [hsh, IntKind.wrap_u64]; omega
          have hwr2 : IntKind.u64.wrap ((2 : Int) ^ nb) = (Y : Int) := by rw [← hwr]; simp
          have hwr3 : ((2 : Int) ^ nb) = (Y : Int) := by rw [← hsh]; simp
          obtain ⟨Y1, hY1⟩ : ∃ Y1, Y - 1 = Y1 := ⟨_, rfl⟩
          have z6 : IntKind.u64.wrap ((Y : Int) - 1) = (Y1 : Int) := by rw [IntKind.wrap_u64]; omega
          have z6b : (Y : Int) - 1 = (Y1 : Int) := by omega
          rw [hY1] at h31
          replace hY := Lib.hid hY
          replace hY1 := Lib.hid hY1
          replace hnb := Lib.hid hnb
          replace hnb2 := Lib.hid hnb2
          clear hsh hfb hk15
          have d2' := d2
          rw [← hnb.out] at d2'
          have h31' := h31
          rw [hnb.out] at h31'
          clear h31 d2'
          by_cases h2 : y.k = 2
          · have e2 : (y.k == 2) = true := by simpa using h2
            clear h2 h23
            go_wp2_with fail
            refine call_then (h31'.out _) ?_
            intro w12 hv
            replace hb := below_next hb hb.size hv
            replace kp := keeps hv kp
            replace ks := keeps hv ks
            clear hv d0 d1 d2 d3 d4 d5 kz
            go_wp2
            exact ⟨⟨n + 1, by omega, by go_num, hb, kp, ks⟩, by simp [intOf]; omega⟩
          · have e2 : (y.k == 2) = false := by simpa using h2
            have e3 : (y.k == 3) = true := by have := h23; simp; omega
            clear h2 h23
            go_wp2_with fail
            refine call_then (h31'.out _) ?_
            intro w12 hv
            replace hb := below_next hb hb.size hv
            replace kp := keeps hv kp
            replace ks := keeps hv ks
            clear hv d0 d1 d2 d3 d4 d5 kz
            go_wp2
            exact ⟨⟨n + 1, by omega, by go_num, hb, kp, ks⟩, by simp [intOf]; omega⟩
        · rw [if_neg h23] at h31
          have e2 : (y.k == 2) = false := by simp; omega
          have e3 : (y.k == 3) = false := by simp; omega
          have h31' := h31
          clear h23 hfb hk15 h31
          go_wp2_with fail
          refine call_then (h31'.out _) ?_
          intro w12 hv
          replace hb := below_next hb hb.size hv
          replace kp := keeps hv kp
          replace ks := keeps hv ks
          clear hv d0 d1 d2 d3 d4 d5 kz
          go_wp2
          exact ⟨⟨n + 1, by omega, by go_num, hb, kp, ks⟩, by simp [intOf]; omega⟩
      · have n0 : (y.code != 0) = true := by simpa using hc0
        replace hc0 := Lib.hid hc0
        go_wp2
        exact ⟨⟨n + 1, by omega, by go_num, hb, kp, ks⟩, by simp [intOf]; omega⟩
    · obtain rfl : n = 2 := by omega
      obtain ⟨s0, s1, s2, s3, s4, s5⟩ := blk6 ks
      go_wp2_with fail
      refine call_then (hS.out _) ?_
      intro w9 hv
      replace hb := below_next hb hb.size hv
      clear hv s0 s1 s2 s3 s4 s5
      go_wp2_with fail
      refine call_then (hRX.out _) ?_
      intro w9 hv
      replace hb := below_next hb hb.size hv
      clear hv
      go_wp2_with fail
      refine call_then (hRXk.out _) ?_
      intro w9 hv
      replace hb := below_next hb hb.size hv
      clear hv
      go_wp2
      go_ret
      exact ⟨rfl, hb⟩
end Go.Proofs.Ytgdokfchfgnbbaa
