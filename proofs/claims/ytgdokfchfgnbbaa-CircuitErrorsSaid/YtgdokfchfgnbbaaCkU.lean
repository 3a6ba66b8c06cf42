/-
  CircuitErrors' walk.
-/
import Derived.Test.YtgdokfchfgnbbaaCkT
import Derived.Test.YtgdokfchfgnbbaaCjL
import Derived.Deep.DeepCutAuto
namespace Go.Proofs.Ytgdokfchfgnbbaa
open Go.RowKit Flow F
set_option linter.unusedVariables false
set_option linter.unusedSimpArgs false
attribute [local go_sem] eql_elem

theorem blk6w {w : World} {p : Nat} {y : Ci} {t : TypeId} {z : Nat × Nat} (h : w.heap[p]? = some (.cells (ccells y).toArray t z)) :
    w.cell? ⟨p, 0, none⟩ = some (.int .u8 y.k) ∧ w.cell? ⟨p, 1, none⟩ = some (.int .u8 y.f) ∧ w.cell? ⟨p, 2, none⟩ = some (.int .i64 y.b) ∧ w.cell? ⟨p, 3, none⟩ = some (.int .i64 y.l) ∧ w.cell? ⟨p, 4, none⟩ = some (.int .i64 y.w) ∧ w.cell? ⟨p, 5, none⟩ = some (.int .i64 y.c) := blk6 h
/-- What lasts over a round. -/
structure ErrW (w0 : World) (pc g : Nat) (c X : Ci) (code : Int) (w : World) : Prop where
  hb : Below w0.heap.size w0 w
  kp : Pair w g c X
  ke : w.heap[pc]? = some (.cells #[.int .i64 code] 3 (0, 0))
theorem ErrW.up {w0 : World} {pc g : Nat} {c X : Ci} {code : Int} {w w' : World} (h : ErrW w0 pc g c X code w) (hv : Below w.heap.size w w') : ErrW w0 pc g c X code w' :=
  ⟨below_next h.hb h.hb.size hv, keeps hv h.kp, keeps hv h.ke⟩
theorem ErrW.far {w0 : World} {pc g p i j : Nat} {c X : Ci} {code : Int} {w : World} {u v : Value} (h : ErrW w0 pc g c X code w) (h0 : w0.heap.size ≤ p) (h1 : g ≠ p) (h2 : pc ≠ p) : ErrW w0 pc g c X code ((w.setCell ⟨p, i, none⟩ u).setCell ⟨p, j, none⟩ v) :=
  ⟨below_store2' h.hb h0, store2_farx h.kp h1, store2_farx h.ke h2⟩
theorem err_ran {pc : Nat} {code said : Int} {own : Nat → Prop} {q : Nat → List Int} {n : Nat} {w w' : World} {e : Ending} (h : Ran (ErrSt pc code) (fun s _ => s) (fun _ _ => code) own q n said () w e w') (hn : 1 ≤ n) : ∃ r, AskOut (ErrSt pc code) own r code () w e w' := by
  rcases h with ⟨j, h1, h2, h3, h4⟩ | ⟨h1, h2⟩
  · exact ⟨0, h4⟩
  · have hc : code = 0 := h1 0 (by omega)
    have h3 : AskOut (ErrSt pc code) own said 0 () w e w' := h2
    rw [← hc] at h3
    exact ⟨said, h3⟩
-- A row is made: which, how many.
-- A region's beginning.
-- One element in a row of its own.
-- Whatever order: the row, the append, the run; the variable when it likes: number of the row's making, of the append.
set_option maxRecDepth 20000 in
set_option maxHeartbeats 8000000 in
theorem errors_walk (c : Ci) (K F B L W C : Int) (A : Option Addr) (N cp : Nat) (A2 : Option Addr) (N2 cp2 : Nat) (sh code : Int) (hNm : N ≤ maxLen) (hNm2 : N2 ≤ maxLen) (hsh : (Lit.int .i64 sh).wf = true)
    (ck0 : 0 ≤ c.k) (ck1 : c.k ≤ 255) (cf0 : 0 ≤ c.f) (cf1 : c.f ≤ 255) (k0 : 0 ≤ K) (k1 : K ≤ 255) (f0 : 0 ≤ F) (f1 : F ≤ 255) (b0 : 0 ≤ B) (b1 : B ≤ 255) (l0 : 0 ≤ L) (l1 : L ≤ 255) (w0 : 0 ≤ W) (w1 : W ≤ 255) (c0 : 0 ≤ C) (c1 : C ≤ 255) (w : World) :
    Calls Try.prog 8 #[cvl c, svl K F B L W C, .slice A N cp, .slice A2 N2 cp2, .int .i64 sh, .int .i64 code] w fun e w' => e = .returned (.bool true) ∧ Below w.heap.size w w' := by
  have hAw := Lib.hid (fun w => awake_ok w)
  have hS := Lib.hid (fun w => small_any K F B L W C k0 k1 f0 f1 b0 b1 l0 l1 w0 w1 c0 c1 w)
  obtain ⟨X, hX⟩ : ∃ X, smallC K F B L W C = X := ⟨_, rfl⟩
  have hXg : X.Good := by rw [← hX]; exact small_good _ _ _ _ _ _
  rw [hX] at hS
  clear hX k0 k1 f0 f1 b0 b1 l0 l1 w0 w1 c0 c1
  have hmf : ∀ (fn : Fn) (first cap : Array Value) (w : World), (Instr.makeFunc fn first cap).run Try.prog w = .ok (.func fn first cap) w := fun _ _ _ _ => rfl
  unfold svl cvl at *
  unfold maxLen at hNm hNm2
  replace hXg := Lib.hid hXg
  replace hsh := Lib.hid hsh
  have hck := Lib.hid (And.intro ck0 (And.intro ck1 (And.intro cf0 cf1)))
  clear ck0 ck1 cf0 cf1
  go_enter Try.func8, Try.ntmps8
  go_wp2_with fail
  refine name_calls (fun w1 => Below w.heap.size w w1 ∧ w1.heap[w.heap.size]? = some (.cells #[.int .u8 c.k, .int .u8 c.f, .int .i64 c.b, .int .i64 c.l, .int .i64 c.w, .int .i64 c.c] 25 (0, 0)) ∧ w1.heap[w.heap.size + 1]? = some (.cells #[.int .u8 K, .int .u8 F, .int .u8 B, .int .u8 L, .int .u8 W, .int .u8 C] 27 (0, 0)) ∧ w1.heap[w.heap.size + 1 + 1]? = some (.cells #[.int .i64 code] 3 (0, 0)))
    ⟨(((Below.refl _ _).alloc (Nat.le_refl _) _).alloc (by simp) _).alloc (by simp; omega) _, alloc_keeps (alloc_keeps (alloc_at rfl)), alloc_keeps (alloc_at (by simp)), alloc_at (by simp)⟩ ?_
  rintro w1 ⟨hb, kc, ks, ke⟩
  generalize hpc : w.heap.size + 1 + 1 = pc at *
  have hpc' : w.heap.size ≤ pc := by omega
  replace hpc' := Lib.hid hpc'
  clear hpc
  refine call_then (hAw.out _) ?_
  intro w2 hv
  replace hb := below_next hb hb.size hv
  replace kc := keeps hv kc
  replace ks := keeps hv ks
  replace ke := keeps hv ke
  clear hv
  clear hAw
  by_cases h1 : 70 < N
  · have n1 : (70 : Int) < (N : Int) := by omega
    go_wp2
    go_ret
    exact ⟨rfl, hb⟩
  have n1 : ¬ (70 : Int) < (N : Int) := by omega
  by_cases h2 : 70 < N2
  · have n2 : (70 : Int) < (N2 : Int) := by omega
    go_wp2
    go_ret
    exact ⟨rfl, hb⟩
  have n2 : ¬ (70 : Int) < (N2 : Int) := by omega
  clear h1 h2
  obtain ⟨s0, s1, s2, s3, s4, s5⟩ := blk6 ks
  go_wp2_with fail
  refine call_then (hS.out _) ?_
  intro w3 hv
  replace hb := below_next hb hb.size hv
  replace kc := keeps hv kc
  replace ks := keeps hv ks
  replace ke := keeps hv ke
  clear hv
  clear s0 s1 s2 s3 s4 s5 hS
  have q1 := lt_of_get kc
  have q2 := Nat.ne_of_lt q1
  go_upto_region 7 with (fail)
  refine name_wp (fun w4 => Below w.heap.size w w4 ∧ w4.heap[w.heap.size]? = some (.cells #[.int .u8 c.k, .int .u8 c.f, .int .i64 c.b, .int .i64 c.l, .int .i64 c.w, .int .i64 c.c] 25 (0, 0)) ∧ w4.heap[w3.heap.size]? = some (.cells #[.int .u8 X.k, .int .u8 X.f, .int .i64 X.b, .int .i64 X.l, .int .i64 X.w, .int .i64 X.c] 25 (0, 0)) ∧ w4.heap[pc]? = some (.cells #[.int .i64 code] 3 (0, 0)))
    ⟨hb.alloc hb.size _, alloc_keeps kc, alloc_at rfl, alloc_keeps ke⟩ ?_
  clear hb kc ks ke q1 q2
  generalize w3.heap.size = px at *
  rintro w4 ⟨hb, kc, ks, ke⟩
  clear w1 w2 w3
  obtain ⟨c0, c1, c2, c3, c4, c5⟩ := blk6 kc
  obtain ⟨s0, s1, s2, s3, s4, s5⟩ := blk6 ks
  go_wp2
  have hgp : w4.heap.size ≠ pc := Nat.ne_of_gt (lt_of_get ke)
  refine name_wp (fun w5 => ErrW w pc w4.heap.size c X code w5) ⟨hb.alloc hb.size _, alloc_at rfl, alloc_keeps ke⟩ ?_
  clear hb kc ks ke c0 c1 c2 c3 c4 c5 s0 s1 s2 s3 s4 s5
  generalize w4.heap.size = g at *
  intro w5 H
  clear w4
  replace hgp := Lib.hid hgp
  go_loopw [49] (fun i wr => ∃ n : Nat, n ≤ 2 ∧ i = .int .i64 (n : Int) ∧ ErrW w pc g c X code wr) (fun i _ => 2 - (intOf i).toNat)
  case atStart => exact ⟨0, Nat.zero_le _, rfl, H⟩
  case round =>
    clear H
    obtain ⟨n, hn, rfl, H⟩ := hrel
    by_cases hlt : n < 2
    · have j1 : (n : Int) < 2 := by omega
      have j0 : (0 : Int) ≤ (n : Int) := by omega
      have hat := H.kp.at_ n hlt
      obtain ⟨y, hy, hyk⟩ : ∃ y : Ci, (if n = 0 then c else X) = y ∧ (0 ≤ y.k ∧ y.k ≤ 255 ∧ 0 ≤ y.f ∧ y.f ≤ 255) := ⟨_, rfl, by
        have h1 := hXg.out.fits.k1
        have h2 := hXg.out.fits.k5
        have h3 := hXg.out.f
        have h4 := hck.out
        split <;> omega⟩
      rw [hy] at hat
      have hks : (wr.alloc (.cells zero6.toArray 25 (0, 0))).heap[wr.heap.size]? = some (.cells zero6.toArray 25 (0, 0)) := alloc_at rfl
      replace hy := Lib.hid hy
      replace hyk := Lib.hid hyk
      go_upto_region 10 with (first
        | (refine list_load_mid _ _ _ _ _ _ rfl rfl rfl hat Try.underlying25 rfl info_circuit ?_)
        | (refine list_store_whole _ _ _ _ (ccells y) zero6 25 rfl rfl rfl rfl hks rfl info_circuit (ccells_one y) ?_; intro w6 hbut kz))
      have H6 : ErrW w pc g c X code w6 := ⟨hbut.below (H.hb.alloc H.hb.size _) H.hb.size (by have := H.hb.size; simp; omega),
        (hbut.block g (by have := lt_of_get H.kp; simp; omega) (Nat.ne_of_lt (lt_of_get H.kp))).trans (alloc_keeps H.kp),
        (hbut.block pc (by have := lt_of_get H.ke; simp; omega) (Nat.ne_of_lt (lt_of_get H.ke))).trans (alloc_keeps H.ke)⟩
      have hqg := Lib.hid (And.intro (Nat.ne_of_lt (lt_of_get H.kp)) (Nat.ne_of_lt (lt_of_get H.ke)))
      clear hbut hks hat H
      generalize wr.heap.size = q at *
      have hR := Lib.hid (fun w => ref_any y hyk.out.1 hyk.out.2.1 hyk.out.2.2.1 hyk.out.2.2.2 w)
      have hC := Lib.hid (fun w => rcheck_any y.k y.f y.b y.l y.w y.c w)
      rw [show (Ci.mk y.k y.f y.b y.l y.w y.c) = y from rfl] at hC
      unfold rvl cvl at hR
      obtain ⟨d0, d1, d2, d3, d4, d5⟩ := blk6w kz
      go_wp2_with fail
      refine call_then (hR.out _) ?_
      intro w7 hv
      have H := H6.up hv
      replace kz := keeps hv kz
      clear hv d0 d1 d2 d3 d4 d5 hR H6
      obtain ⟨d0, d1, d2, d3, d4, d5⟩ := blk6w kz
      go_wp2_with fail
      refine call_then (hC.out _) ?_
      intro w8 hv
      replace H := H.up hv
      replace kz := keeps hv kz
      clear hv d0 d1 d2 d3 d4 d5 hC
      obtain ⟨d0, d1, d2, d3, d4, d5⟩ := blk6w kz
      by_cases hc0 : y.code = 0
      · have n0 : (y.code != 0) = false := by simp [hc0]
        have hg := Ci.good hc0
        replace hc0 := Lib.hid hc0
        have hN := Lib.hid (fun w => run_nil y A A2 N cp N2 cp2 sh hg w)
        unfold cvl RunBad at hN
        go_wp2_with fail
        refine call_then (hN.out _) ?_
        intro w9 hv
        replace H := H.up hv
        replace kz := keeps hv kz
        clear hv d0 d1 d2 d3 d4 d5 hN
        go_upto_region 16 with (fail)
        have hv := (Below.refl w9.heap.size w9).alloc (Nat.le_refl _) (.cells #[.int .u64 0, .int .u64 0] 56)
        refine name_wp (fun w10 => ErrW w pc g c X code w10 ∧ w10.heap[q]? = some (.cells (ccells y).toArray 25 (0, 0))) ⟨H.up hv, keeps hv kz⟩ ?_
        clear H kz hv
        generalize w9.heap.size = qq at *
        clear w6 w7 w8 w9
        rintro w9 ⟨H, kz⟩
        have hIn := Lib.hid (fun w => inup_any y hg w)
        have hJo := Lib.hid (fun w => joint_any y hg w)
        have hI2 := hg.fits.in_le
        have hJ2 : y.jointN ≤ 512 := by
          have := hg.calls
          unfold Ci.jointN
          repeat (first | omega | split)
        have hcp := calls_pos hg
        unfold cvl at hIn hJo
        obtain ⟨I, hI⟩ : ∃ I, y.inN = I := ⟨_, rfl⟩
        obtain ⟨J, hJ⟩ : ∃ J, y.jointN = J := ⟨_, rfl⟩
        rw [hI] at hIn hI2
        rw [hJ] at hJo hJ2
        have hmI := make_elems I (by omega)
        have hmJ := make_elems J (by omega)
        replace hI := Lib.hid hI
        replace hJ := Lib.hid hJ
        replace hg := Lib.hid hg
        go_cut [22, 23] (fun a b w' => ∃ g1 g2, a = .slice (some ⟨g1, 0, none⟩) I I ∧ b = .slice (some ⟨g2, 0, none⟩) J J ∧ g1 ≠ pc ∧ g2 ≠ pc ∧ ErrW w pc g c X code w' ∧ w'.heap[q]? = some (.cells (ccells y).toArray 25 (0, 0)) ∧ Row w' g1 (List.replicate I 0) ∧ Row w' g2 (List.replicate J 0))
        case first =>
          have hz := Lib.hid (Nat.le_refl w9.heap.size)
          have hpl := Lib.hid (lt_of_get H.ke)
          refine segS_start (gb := fun _ => True) 8 (by kernel_rfl) (by decide) ?_
          intro v0 hv
          replace H := H.up hv
          replace kz := keeps hv kz
          try replace r1 := r1.up hv
          try replace r2 := r2.up hv
          try replace r3 := r3.up hv
          try replace kx := kx.up hv
          replace hz := Lib.hid (Nat.le_trans hz.out hv.size)
          clear hv
          refine segS_batch 4 [0, 1, 3, 4] (by kernel_rfl) rfl (by kernel_rfl) (by kernel_rfl) (by kernel_rfl) ?_
          apply Exists.intro
          refine ⟨fun ι _ φ hφ => ?_, fun v1 hv => ?_⟩
          · have qd := fun i => blk6w ((hφ.old i).keeps kz trivial)
            have q0 := fun i => (qd i).1
            have q1 := fun i => (qd i).2.1
            have q2 := fun i => (qd i).2.2.1
            have q3 := fun i => (qd i).2.2.2.1
            have q4 := fun i => (qd i).2.2.2.2.1
            have q5 := fun i => (qd i).2.2.2.2.2
            clear qd
            repeat (refine pick_step rfl ?_; go_big_quiet_step ((first
              | (go_at_call 15; exact flowS_call hφ (hIn.out _))
              | (go_at_call 21; exact flowS_call hφ (hJo.out _)))))
            exact pick_end
          replace H := H.up hv
          replace kz := keeps hv kz
          try replace r1 := r1.up hv
          try replace r2 := r2.up hv
          try replace r3 := r3.up hv
          try replace kx := kx.up hv
          replace hz := Lib.hid (Nat.le_trans hz.out hv.size)
          clear hv
          refine segS_more [2, 5] (by kernel_rfl) (by decide) ?_
          intro y' hy'
          simp only [List.mem_cons, List.not_mem_nil, or_false] at hy'
          rcases hy' with rfl | rfl
          · refine ⟨by decide, _, rfl, fun v2 K hv hK => ?_⟩
            replace H := H.up hv
            replace kz := keeps hv kz
            try replace r1 := r1.up hv
            try replace r2 := r2.up hv
            try replace r3 := r3.up hv
            try replace kx := kx.up hv
            replace hz := Lib.hid (Nat.le_trans hz.out hv.size)
            clear hv
            replace hK := Lib.hid hK
            go_simp
            have hv := (Below.refl v2.heap.size v2).alloc (Nat.le_refl _) (.cells (ecells (List.replicate I 0)).toArray 56)
            refine hK.out _ _ (HeldS.of_below hv) ?_
            clear hK K
            have hn_r1 := hz
            replace H := H.up hv
            replace kz := keeps hv kz
            try replace r1 := r1.up hv
            try replace r2 := r2.up hv
            try replace r3 := r3.up hv
            try replace kx := kx.up hv
            replace hz := Lib.hid (Nat.le_trans hz.out hv.size)
            clear hv
            have r1 : Row (v2.alloc (.cells (ecells (List.replicate I 0)).toArray 56)) v2.heap.size (List.replicate I 0) := alloc_at rfl
            generalize v2.alloc (.cells (ecells (List.replicate I 0)).toArray 56) = v2' at *
            generalize v2.heap.size = g1 at *
            refine segS_more [5, 6] (by kernel_rfl) (by decide) ?_
            intro y' hy'
            simp only [List.mem_cons, List.not_mem_nil, or_false] at hy'
            rcases hy' with rfl | rfl
            · refine ⟨by decide, _, rfl, fun v3 K hv hK => ?_⟩
              replace H := H.up hv
              replace kz := keeps hv kz
              try replace r1 := r1.up hv
              try replace r2 := r2.up hv
              try replace r3 := r3.up hv
              try replace kx := kx.up hv
              replace hz := Lib.hid (Nat.le_trans hz.out hv.size)
              clear hv
              replace hK := Lib.hid hK
              go_simp
              have hv := (Below.refl v3.heap.size v3).alloc (Nat.le_refl _) (.cells (ecells (List.replicate J 0)).toArray 56)
              refine hK.out _ _ (HeldS.of_below hv) ?_
              clear hK K
              have hn_r2 := hz
              replace H := H.up hv
              replace kz := keeps hv kz
              try replace r1 := r1.up hv
              try replace r2 := r2.up hv
              try replace r3 := r3.up hv
              try replace kx := kx.up hv
              replace hz := Lib.hid (Nat.le_trans hz.out hv.size)
              clear hv
              have r2 : Row (v3.alloc (.cells (ecells (List.replicate J 0)).toArray 56)) v3.heap.size (List.replicate J 0) := alloc_at rfl
              generalize v3.alloc (.cells (ecells (List.replicate J 0)).toArray 56) = v3' at *
              generalize v3.heap.size = g2 at *
              refine segS_one 6 _ (by decide) rfl (by kernel_rfl) ?_
              intro v4 K hv hK
              replace H := H.up hv
              replace kz := keeps hv kz
              try replace r1 := r1.up hv
              try replace r2 := r2.up hv
              try replace r3 := r3.up hv
              try replace kx := kx.up hv
              replace hz := Lib.hid (Nat.le_trans hz.out hv.size)
              clear hv
              replace hK := Lib.hid hK
              go_simp
              refine hK.out _ _ (HeldS.refl _ _) ?_
              clear hK K
              refine segS_one 7 _ (by decide) rfl (by kernel_rfl) ?_
              intro v5 K hv hK
              replace H := H.up hv
              replace kz := keeps hv kz
              try replace r1 := r1.up hv
              try replace r2 := r2.up hv
              try replace r3 := r3.up hv
              try replace kx := kx.up hv
              replace hz := Lib.hid (Nat.le_trans hz.out hv.size)
              clear hv
              replace hK := Lib.hid hK
              go_simp
              refine hK.out _ _ (HeldS.refl _ _) ?_
              clear hK K
              refine segS_done rfl (by kernel_rfl) ?_
              intro vz hv
              replace H := H.up hv
              replace kz := keeps hv kz
              try replace r1 := r1.up hv
              try replace r2 := r2.up hv
              try replace r3 := r3.up hv
              try replace kx := kx.up hv
              replace hz := Lib.hid (Nat.le_trans hz.out hv.size)
              clear hv
              go_wp2
              go_meet
              exact ⟨g1, g2, rfl, rfl, by have := hn_r1.out; have := hpl.out; omega, by have := hn_r2.out; have := hpl.out; omega, H, kz, r1, r2⟩
            · refine ⟨by decide, _, rfl, fun v3 K hv hK => ?_⟩
              replace H := H.up hv
              replace kz := keeps hv kz
              try replace r1 := r1.up hv
              try replace r2 := r2.up hv
              try replace r3 := r3.up hv
              try replace kx := kx.up hv
              replace hz := Lib.hid (Nat.le_trans hz.out hv.size)
              clear hv
              replace hK := Lib.hid hK
              go_simp
              refine hK.out _ _ (HeldS.refl _ _) ?_
              clear hK K
              refine segS_one 5 _ (by decide) rfl (by kernel_rfl) ?_
              intro v4 K hv hK
              replace H := H.up hv
              replace kz := keeps hv kz
              try replace r1 := r1.up hv
              try replace r2 := r2.up hv
              try replace r3 := r3.up hv
              try replace kx := kx.up hv
              replace hz := Lib.hid (Nat.le_trans hz.out hv.size)
              clear hv
              replace hK := Lib.hid hK
              go_simp
              have hv := (Below.refl v4.heap.size v4).alloc (Nat.le_refl _) (.cells (ecells (List.replicate J 0)).toArray 56)
              refine hK.out _ _ (HeldS.of_below hv) ?_
              clear hK K
              have hn_r2 := hz
              replace H := H.up hv
              replace kz := keeps hv kz
              try replace r1 := r1.up hv
              try replace r2 := r2.up hv
              try replace r3 := r3.up hv
              try replace kx := kx.up hv
              replace hz := Lib.hid (Nat.le_trans hz.out hv.size)
              clear hv
              have r2 : Row (v4.alloc (.cells (ecells (List.replicate J 0)).toArray 56)) v4.heap.size (List.replicate J 0) := alloc_at rfl
              generalize v4.alloc (.cells (ecells (List.replicate J 0)).toArray 56) = v4' at *
              generalize v4.heap.size = g2 at *
              refine segS_one 7 _ (by decide) rfl (by kernel_rfl) ?_
              intro v5 K hv hK
              replace H := H.up hv
              replace kz := keeps hv kz
              try replace r1 := r1.up hv
              try replace r2 := r2.up hv
              try replace r3 := r3.up hv
              try replace kx := kx.up hv
              replace hz := Lib.hid (Nat.le_trans hz.out hv.size)
              clear hv
              replace hK := Lib.hid hK
              go_simp
              refine hK.out _ _ (HeldS.refl _ _) ?_
              clear hK K
              refine segS_done rfl (by kernel_rfl) ?_
              intro vz hv
              replace H := H.up hv
              replace kz := keeps hv kz
              try replace r1 := r1.up hv
              try replace r2 := r2.up hv
              try replace r3 := r3.up hv
              try replace kx := kx.up hv
              replace hz := Lib.hid (Nat.le_trans hz.out hv.size)
              clear hv
              go_wp2
              go_meet
              exact ⟨g1, g2, rfl, rfl, by have := hn_r1.out; have := hpl.out; omega, by have := hn_r2.out; have := hpl.out; omega, H, kz, r1, r2⟩
          · refine ⟨by decide, _, rfl, fun v2 K hv hK => ?_⟩
            replace H := H.up hv
            replace kz := keeps hv kz
            try replace r1 := r1.up hv
            try replace r2 := r2.up hv
            try replace r3 := r3.up hv
            try replace kx := kx.up hv
            replace hz := Lib.hid (Nat.le_trans hz.out hv.size)
            clear hv
            replace hK := Lib.hid hK
            go_simp
            have hv := (Below.refl v2.heap.size v2).alloc (Nat.le_refl _) (.cells (ecells (List.replicate J 0)).toArray 56)
            refine hK.out _ _ (HeldS.of_below hv) ?_
            clear hK K
            have hn_r2 := hz
            replace H := H.up hv
            replace kz := keeps hv kz
            try replace r1 := r1.up hv
            try replace r2 := r2.up hv
            try replace r3 := r3.up hv
            try replace kx := kx.up hv
            replace hz := Lib.hid (Nat.le_trans hz.out hv.size)
            clear hv
            have r2 : Row (v2.alloc (.cells (ecells (List.replicate J 0)).toArray 56)) v2.heap.size (List.replicate J 0) := alloc_at rfl
            generalize v2.alloc (.cells (ecells (List.replicate J 0)).toArray 56) = v2' at *
            generalize v2.heap.size = g2 at *
            refine segS_one 2 _ (by decide) rfl (by kernel_rfl) ?_
            intro v3 K hv hK
            replace H := H.up hv
            replace kz := keeps hv kz
            try replace r1 := r1.up hv
            try replace r2 := r2.up hv
            try replace r3 := r3.up hv
            try replace kx := kx.up hv
            replace hz := Lib.hid (Nat.le_trans hz.out hv.size)
            clear hv
            replace hK := Lib.hid hK
            go_simp
            have hv := (Below.refl v3.heap.size v3).alloc (Nat.le_refl _) (.cells (ecells (List.replicate I 0)).toArray 56)
            refine hK.out _ _ (HeldS.of_below hv) ?_
            clear hK K
            have hn_r1 := hz
            replace H := H.up hv
            replace kz := keeps hv kz
            try replace r1 := r1.up hv
            try replace r2 := r2.up hv
            try replace r3 := r3.up hv
            try replace kx := kx.up hv
            replace hz := Lib.hid (Nat.le_trans hz.out hv.size)
            clear hv
            have r1 : Row (v3.alloc (.cells (ecells (List.replicate I 0)).toArray 56)) v3.heap.size (List.replicate I 0) := alloc_at rfl
            generalize v3.alloc (.cells (ecells (List.replicate I 0)).toArray 56) = v3' at *
            generalize v3.heap.size = g1 at *
            refine segS_one 6 _ (by decide) rfl (by kernel_rfl) ?_
            intro v4 K hv hK
            replace H := H.up hv
            replace kz := keeps hv kz
            try replace r1 := r1.up hv
            try replace r2 := r2.up hv
            try replace r3 := r3.up hv
            try replace kx := kx.up hv
            replace hz := Lib.hid (Nat.le_trans hz.out hv.size)
            clear hv
            replace hK := Lib.hid hK
            go_simp
            refine hK.out _ _ (HeldS.refl _ _) ?_
            clear hK K
            refine segS_one 7 _ (by decide) rfl (by kernel_rfl) ?_
            intro v5 K hv hK
            replace H := H.up hv
            replace kz := keeps hv kz
            try replace r1 := r1.up hv
            try replace r2 := r2.up hv
            try replace r3 := r3.up hv
            try replace kx := kx.up hv
            replace hz := Lib.hid (Nat.le_trans hz.out hv.size)
            clear hv
            replace hK := Lib.hid hK
            go_simp
            refine hK.out _ _ (HeldS.refl _ _) ?_
            clear hK K
            refine segS_done rfl (by kernel_rfl) ?_
            intro vz hv
            replace H := H.up hv
            replace kz := keeps hv kz
            try replace r1 := r1.up hv
            try replace r2 := r2.up hv
            try replace r3 := r3.up hv
            try replace kx := kx.up hv
            replace hz := Lib.hid (Nat.le_trans hz.out hv.size)
            clear hv
            go_wp2
            go_meet
            exact ⟨g1, g2, rfl, rfl, by have := hn_r1.out; have := hpl.out; omega, by have := hn_r2.out; have := hpl.out; omega, H, kz, r1, r2⟩
        clear hIn hJo hmI hmJ H kz w9
        obtain ⟨g1, g2, rfl, rfl, hg1, hg2, H, kz, r1, r2⟩ := hcut
        go_upto_region 17 with (fail)
        go_cut [25] (fun a w' => a = .int .i64 9 ∧ ErrW w pc g c X code w' ∧ w'.heap[q]? = some (.cells (ccells y).toArray 25 (0, 0)) ∧ Row w' g1 (List.replicate I 0) ∧ Row w' g2 (List.replicate J 0))
        case first =>
          have hz := Lib.hid (Nat.le_refl wc.heap.size)
          have hL := Lib.hid (And.intro (lt_of_get H.kp) (And.intro (lt_of_get H.ke) (And.intro (lt_of_get kz) (And.intro (lt_of_get r1) (lt_of_get r2)))))
          have hw0 := Lib.hid H.hb.size
          refine segS_start (gb := fun k => k < wc.heap.size) 14 (by kernel_rfl) (by decide) ?_
          intro v0 hv
          replace H := H.up hv
          replace kz := keeps hv kz
          try replace r1 := r1.up hv
          try replace r2 := r2.up hv
          try replace r3 := r3.up hv
          try replace kx := kx.up hv
          replace hz := Lib.hid (Nat.le_trans hz.out hv.size)
          clear hv
          have hRs := Lib.hid (fun p4 cz w => run_size y (some ⟨p4, 0, none⟩) (some ⟨g2, 0, none⟩) (I + 1) cz J J 2 54 #[.pointer (some ⟨pc, 0, none⟩)] hg.out (.inl (by rw [hI.out]; omega)) w)
          unfold cvl RunBad at hRs
          refine segS_batch 9 [0, 1, 2, 5, 6] (by kernel_rfl) rfl (by kernel_rfl) (by kernel_rfl) (by kernel_rfl) ?_
          apply Exists.intro
          refine ⟨fun ι _ φ hφ => ?_, fun vb hv => ?_⟩
          · have qd := fun i => blk6w ((hφ.old i).keeps kz hL.out.2.2.1)
            have q0 := fun i => (qd i).1
            have q1 := fun i => (qd i).2.1
            have q2 := fun i => (qd i).2.2.1
            have q3 := fun i => (qd i).2.2.2.1
            have q4 := fun i => (qd i).2.2.2.2.1
            have q5 := fun i => (qd i).2.2.2.2.2
            clear qd
            repeat (refine pick_step rfl ?_; go_big_quiet_step (fail))
            exact pick_end
          replace H := H.up hv
          replace kz := keeps hv kz
          try replace r1 := r1.up hv
          try replace r2 := r2.up hv
          try replace r3 := r3.up hv
          try replace kx := kx.up hv
          replace hz := Lib.hid (Nat.le_trans hz.out hv.size)
          clear hv
          refine segS_more [3, 11] (by kernel_rfl) (by decide) ?_
          intro y' hy'
          simp only [List.mem_cons, List.not_mem_nil, or_false] at hy'
          rcases hy' with rfl | rfl
          · refine ⟨by decide, _, rfl, fun v1 K hv hK => ?_⟩
            replace H := H.up hv
            replace kz := keeps hv kz
            try replace r1 := r1.up hv
            try replace r2 := r2.up hv
            try replace r3 := r3.up hv
            try replace kx := kx.up hv
            replace hz := Lib.hid (Nat.le_trans hz.out hv.size)
            clear hv
            replace hK := Lib.hid hK
            go_simp
            have hv := (Below.refl v1.heap.size v1).alloc (Nat.le_refl _) (.cells #[.int .u64 0, .int .u64 0] 56)
            refine hK.out _ _ (HeldS.of_below hv) ?_
            clear hK K
            replace H := H.up hv
            replace kz := keeps hv kz
            try replace r1 := r1.up hv
            try replace r2 := r2.up hv
            try replace r3 := r3.up hv
            try replace kx := kx.up hv
            replace hz := Lib.hid (Nat.le_trans hz.out hv.size)
            clear hv
            have r3 : Row (v1.alloc (.cells #[.int .u64 0, .int .u64 0] 56)) v1.heap.size [0] := alloc_at rfl
            generalize v1.alloc (.cells #[.int .u64 0, .int .u64 0] 56) = v1' at *
            generalize v1.heap.size = p3 at *
            refine segS_more [4, 11] (by kernel_rfl) (by decide) ?_
            intro y' hy'
            simp only [List.mem_cons, List.not_mem_nil, or_false] at hy'
            rcases hy' with rfl | rfl
            · refine ⟨by decide, _, rfl, fun v2 K hv hK => ?_⟩
              replace H := H.up hv
              replace kz := keeps hv kz
              try replace r1 := r1.up hv
              try replace r2 := r2.up hv
              try replace r3 := r3.up hv
              try replace kx := kx.up hv
              replace hz := Lib.hid (Nat.le_trans hz.out hv.size)
              clear hv
              refine wp_append_full rfl _ _ rfl g1 I p3 _ 0 rfl r1 (by simp) (by omega) rfl r3 ?_
              intro v' cz hv
              refine hK _ _ (HeldS.of_below hv) ?_
              clear hK K
              replace H := H.up hv
              replace kz := keeps hv kz
              try replace r1 := r1.up hv
              try replace r2 := r2.up hv
              try replace r3 := r3.up hv
              try replace kx := kx.up hv
              replace hz := Lib.hid (Nat.le_trans hz.out hv.size)
              clear hv
              generalize v2.heap.size = p4 at *
              refine segS_more [7, 11] (by kernel_rfl) (by decide) ?_
              intro y' hy'
              simp only [List.mem_cons, List.not_mem_nil, or_false] at hy'
              rcases hy' with rfl | rfl
              · refine ⟨by decide, _, rfl, fun v3 K hv hK => ?_⟩
                replace H := H.up hv
                replace kz := keeps hv kz
                try replace r1 := r1.up hv
                try replace r2 := r2.up hv
                try replace r3 := r3.up hv
                try replace kx := kx.up hv
                replace hz := Lib.hid (Nat.le_trans hz.out hv.size)
                clear hv
                replace hK := Lib.hid hK
                go_simp
                refine (hRs.out p4 cz _).mono ?_
                rintro e v' ⟨rfl, hv⟩
                refine hK.out _ _ (HeldS.of_below hv) ?_
                clear hK K
                replace H := H.up hv
                replace kz := keeps hv kz
                try replace r1 := r1.up hv
                try replace r2 := r2.up hv
                try replace r3 := r3.up hv
                try replace kx := kx.up hv
                replace hz := Lib.hid (Nat.le_trans hz.out hv.size)
                clear hv
                refine segS_batch 3 [8, 9, 10] (by kernel_rfl) rfl (by kernel_rfl) (by kernel_rfl) (by kernel_rfl) ?_
                apply Exists.intro
                refine ⟨fun ι _ φ hφ => ?_, fun vb hv => ?_⟩
                · repeat (refine pick_step rfl ?_; go_big_quiet_step (fail))
                  exact pick_end
                replace H := H.up hv
                replace kz := keeps hv kz
                try replace r1 := r1.up hv
                try replace r2 := r2.up hv
                try replace r3 := r3.up hv
                try replace kx := kx.up hv
                replace hz := Lib.hid (Nat.le_trans hz.out hv.size)
                clear hv
                refine segS_one 11 _ (by decide) rfl (by kernel_rfl) ?_
                intro v4 K hv hK
                replace H := H.up hv
                replace kz := keeps hv kz
                try replace r1 := r1.up hv
                try replace r2 := r2.up hv
                try replace r3 := r3.up hv
                try replace kx := kx.up hv
                replace hz := Lib.hid (Nat.le_trans hz.out hv.size)
                clear hv
                replace hK := Lib.hid hK
                go_simp
                have hv := (Below.refl v4.heap.size v4).alloc (Nat.le_refl _) (.cells #[.int .u64 0, .int .u64 0] 56)
                refine hK.out _ _ (HeldS.of_below hv) ?_
                clear hK K
                have hx := hz
                replace H := H.up hv
                replace kz := keeps hv kz
                try replace r1 := r1.up hv
                try replace r2 := r2.up hv
                try replace r3 := r3.up hv
                try replace kx := kx.up hv
                replace hz := Lib.hid (Nat.le_trans hz.out hv.size)
                clear hv
                have kx : Holds (v4.alloc (.cells #[.int .u64 0, .int .u64 0] 56)) v4.heap.size 0 := alloc_at rfl
                generalize v4.alloc (.cells #[.int .u64 0, .int .u64 0] 56) = v4' at *
                generalize v4.heap.size = px at *
                refine segS_one 12 _ (by decide) rfl (by kernel_rfl) ?_
                intro vc K hv hK
                replace H := H.up hv
                replace kz := keeps hv kz
                try replace r1 := r1.up hv
                try replace r2 := r2.up hv
                try replace r3 := r3.up hv
                try replace kx := kx.up hv
                replace hz := Lib.hid (Nat.le_trans hz.out hv.size)
                clear hv
                obtain ⟨t0, t1, t2, t3⟩ := blk2 kx
                replace hK := Lib.hid hK
                go_simp
                refine hK.out _ _ (HeldS.set2 (by have := hx.out; omega)) ?_
                clear hK K t0 t1 t2 t3
                replace H := H.far (i := 0) (j := 1) (u := .int .u64 0) (v := .int .u64 0) (by have := hx.out; have := hw0.out; omega) (show g ≠ px by have := hx.out; have := hL.out; omega) (show pc ≠ px by have := hx.out; have := hL.out; omega)
                replace kz := store2_far (u := .int .u64 0) (v := .int .u64 0) kz (show q ≠ px by have := hx.out; have := hL.out; omega)
                replace r1 := r1.far (i := 0) (j := 1) (u := .int .u64 0) (v := .int .u64 0) (show g1 ≠ px by have := hx.out; have := hL.out; omega)
                replace r2 := r2.far (i := 0) (j := 1) (u := .int .u64 0) (v := .int .u64 0) (show g2 ≠ px by have := hx.out; have := hL.out; omega)
                replace hz := Lib.hid (show wc.heap.size ≤ ((vc.setCell ⟨px, 0, none⟩ (.int .u64 0)).setCell ⟨px, 1, none⟩ (.int .u64 0)).heap.size by simp [World.setCell]; exact hz.out)
                clear kx
                refine segS_one 13 _ (by decide) rfl (by kernel_rfl) ?_
                intro vd K hv hK
                replace H := H.up hv
                replace kz := keeps hv kz
                try replace r1 := r1.up hv
                try replace r2 := r2.up hv
                try replace r3 := r3.up hv
                try replace kx := kx.up hv
                replace hz := Lib.hid (Nat.le_trans hz.out hv.size)
                clear hv
                replace hK := Lib.hid hK
                go_simp
                refine hK.out _ _ (HeldS.refl _ _) ?_
                clear hK K
                refine segS_done rfl (by kernel_rfl) ?_
                intro vz hv
                replace H := H.up hv
                replace kz := keeps hv kz
                try replace r1 := r1.up hv
                try replace r2 := r2.up hv
                try replace r3 := r3.up hv
                try replace kx := kx.up hv
                replace hz := Lib.hid (Nat.le_trans hz.out hv.size)
                clear hv
                go_wp2
                go_meet
                exact ⟨rfl, H, kz, r1, r2⟩
              · refine ⟨by decide, _, rfl, fun v3 K hv hK => ?_⟩
                replace H := H.up hv
                replace kz := keeps hv kz
                try replace r1 := r1.up hv
                try replace r2 := r2.up hv
                try replace r3 := r3.up hv
                try replace kx := kx.up hv
                replace hz := Lib.hid (Nat.le_trans hz.out hv.size)
                clear hv
                replace hK := Lib.hid hK
                go_simp
                have hv := (Below.refl v3.heap.size v3).alloc (Nat.le_refl _) (.cells #[.int .u64 0, .int .u64 0] 56)
                refine hK.out _ _ (HeldS.of_below hv) ?_
                clear hK K
                have hx := hz
                replace H := H.up hv
                replace kz := keeps hv kz
                try replace r1 := r1.up hv
                try replace r2 := r2.up hv
                try replace r3 := r3.up hv
                try replace kx := kx.up hv
                replace hz := Lib.hid (Nat.le_trans hz.out hv.size)
                clear hv
                have kx : Holds (v3.alloc (.cells #[.int .u64 0, .int .u64 0] 56)) v3.heap.size 0 := alloc_at rfl
                generalize v3.alloc (.cells #[.int .u64 0, .int .u64 0] 56) = v3' at *
                generalize v3.heap.size = px at *
                refine segS_one 7 _ (by decide) rfl (by kernel_rfl) ?_
                intro v4 K hv hK
                replace H := H.up hv
                replace kz := keeps hv kz
                try replace r1 := r1.up hv
                try replace r2 := r2.up hv
                try replace r3 := r3.up hv
                try replace kx := kx.up hv
                replace hz := Lib.hid (Nat.le_trans hz.out hv.size)
                clear hv
                replace hK := Lib.hid hK
                go_simp
                refine (hRs.out p4 cz _).mono ?_
                rintro e v' ⟨rfl, hv⟩
                refine hK.out _ _ (HeldS.of_below hv) ?_
                clear hK K
                replace H := H.up hv
                replace kz := keeps hv kz
                try replace r1 := r1.up hv
                try replace r2 := r2.up hv
                try replace r3 := r3.up hv
                try replace kx := kx.up hv
                replace hz := Lib.hid (Nat.le_trans hz.out hv.size)
                clear hv
                refine segS_batch 2 [8, 9, 10] (by kernel_rfl) rfl (by kernel_rfl) (by kernel_rfl) (by kernel_rfl) ?_
                apply Exists.intro
                refine ⟨fun ι _ φ hφ => ?_, fun vb hv => ?_⟩
                · repeat (refine pick_step rfl ?_; go_big_quiet_step (fail))
                  exact pick_end
                replace H := H.up hv
                replace kz := keeps hv kz
                try replace r1 := r1.up hv
                try replace r2 := r2.up hv
                try replace r3 := r3.up hv
                try replace kx := kx.up hv
                replace hz := Lib.hid (Nat.le_trans hz.out hv.size)
                clear hv
                refine segS_one 12 _ (by decide) rfl (by kernel_rfl) ?_
                intro vc K hv hK
                replace H := H.up hv
                replace kz := keeps hv kz
                try replace r1 := r1.up hv
                try replace r2 := r2.up hv
                try replace r3 := r3.up hv
                try replace kx := kx.up hv
                replace hz := Lib.hid (Nat.le_trans hz.out hv.size)
                clear hv
                obtain ⟨t0, t1, t2, t3⟩ := blk2 kx
                replace hK := Lib.hid hK
                go_simp
                refine hK.out _ _ (HeldS.set2 (by have := hx.out; omega)) ?_
                clear hK K t0 t1 t2 t3
                replace H := H.far (i := 0) (j := 1) (u := .int .u64 0) (v := .int .u64 0) (by have := hx.out; have := hw0.out; omega) (show g ≠ px by have := hx.out; have := hL.out; omega) (show pc ≠ px by have := hx.out; have := hL.out; omega)
                replace kz := store2_far (u := .int .u64 0) (v := .int .u64 0) kz (show q ≠ px by have := hx.out; have := hL.out; omega)
                replace r1 := r1.far (i := 0) (j := 1) (u := .int .u64 0) (v := .int .u64 0) (show g1 ≠ px by have := hx.out; have := hL.out; omega)
                replace r2 := r2.far (i := 0) (j := 1) (u := .int .u64 0) (v := .int .u64 0) (show g2 ≠ px by have := hx.out; have := hL.out; omega)
                replace hz := Lib.hid (show wc.heap.size ≤ ((vc.setCell ⟨px, 0, none⟩ (.int .u64 0)).setCell ⟨px, 1, none⟩ (.int .u64 0)).heap.size by simp [World.setCell]; exact hz.out)
                clear kx
                refine segS_one 13 _ (by decide) rfl (by kernel_rfl) ?_
                intro vd K hv hK
                replace H := H.up hv
                replace kz := keeps hv kz
                try replace r1 := r1.up hv
                try replace r2 := r2.up hv
                try replace r3 := r3.up hv
                try replace kx := kx.up hv
                replace hz := Lib.hid (Nat.le_trans hz.out hv.size)
                clear hv
                replace hK := Lib.hid hK
                go_simp
                refine hK.out _ _ (HeldS.refl _ _) ?_
                clear hK K
                refine segS_done rfl (by kernel_rfl) ?_
                intro vz hv
                replace H := H.up hv
                replace kz := keeps hv kz
                try replace r1 := r1.up hv
                try replace r2 := r2.up hv
                try replace r3 := r3.up hv
                try replace kx := kx.up hv
                replace hz := Lib.hid (Nat.le_trans hz.out hv.size)
                clear hv
                go_wp2
                go_meet
                exact ⟨rfl, H, kz, r1, r2⟩
            · refine ⟨by decide, _, rfl, fun v2 K hv hK => ?_⟩
              replace H := H.up hv
              replace kz := keeps hv kz
              try replace r1 := r1.up hv
              try replace r2 := r2.up hv
              try replace r3 := r3.up hv
              try replace kx := kx.up hv
              replace hz := Lib.hid (Nat.le_trans hz.out hv.size)
              clear hv
              replace hK := Lib.hid hK
              go_simp
              have hv := (Below.refl v2.heap.size v2).alloc (Nat.le_refl _) (.cells #[.int .u64 0, .int .u64 0] 56)
              refine hK.out _ _ (HeldS.of_below hv) ?_
              clear hK K
              have hx := hz
              replace H := H.up hv
              replace kz := keeps hv kz
              try replace r1 := r1.up hv
              try replace r2 := r2.up hv
              try replace r3 := r3.up hv
              try replace kx := kx.up hv
              replace hz := Lib.hid (Nat.le_trans hz.out hv.size)
              clear hv
              have kx : Holds (v2.alloc (.cells #[.int .u64 0, .int .u64 0] 56)) v2.heap.size 0 := alloc_at rfl
              generalize v2.alloc (.cells #[.int .u64 0, .int .u64 0] 56) = v2' at *
              generalize v2.heap.size = px at *
              refine segS_one 4 _ (by decide) rfl (by kernel_rfl) ?_
              intro v3 K hv hK
              replace H := H.up hv
              replace kz := keeps hv kz
              try replace r1 := r1.up hv
              try replace r2 := r2.up hv
              try replace r3 := r3.up hv
              try replace kx := kx.up hv
              replace hz := Lib.hid (Nat.le_trans hz.out hv.size)
              clear hv
              refine wp_append_full rfl _ _ rfl g1 I p3 _ 0 rfl r1 (by simp) (by omega) rfl r3 ?_
              intro v' cz hv
              refine hK _ _ (HeldS.of_below hv) ?_
              clear hK K
              replace H := H.up hv
              replace kz := keeps hv kz
              try replace r1 := r1.up hv
              try replace r2 := r2.up hv
              try replace r3 := r3.up hv
              try replace kx := kx.up hv
              replace hz := Lib.hid (Nat.le_trans hz.out hv.size)
              clear hv
              generalize v3.heap.size = p4 at *
              refine segS_one 7 _ (by decide) rfl (by kernel_rfl) ?_
              intro v4 K hv hK
              replace H := H.up hv
              replace kz := keeps hv kz
              try replace r1 := r1.up hv
              try replace r2 := r2.up hv
              try replace r3 := r3.up hv
              try replace kx := kx.up hv
              replace hz := Lib.hid (Nat.le_trans hz.out hv.size)
              clear hv
              replace hK := Lib.hid hK
              go_simp
              refine (hRs.out p4 cz _).mono ?_
              rintro e v' ⟨rfl, hv⟩
              refine hK.out _ _ (HeldS.of_below hv) ?_
              clear hK K
              replace H := H.up hv
              replace kz := keeps hv kz
              try replace r1 := r1.up hv
              try replace r2 := r2.up hv
              try replace r3 := r3.up hv
              try replace kx := kx.up hv
              replace hz := Lib.hid (Nat.le_trans hz.out hv.size)
              clear hv
              refine segS_batch 2 [8, 9, 10] (by kernel_rfl) rfl (by kernel_rfl) (by kernel_rfl) (by kernel_rfl) ?_
              apply Exists.intro
              refine ⟨fun ι _ φ hφ => ?_, fun vb hv => ?_⟩
              · repeat (refine pick_step rfl ?_; go_big_quiet_step (fail))
                exact pick_end
              replace H := H.up hv
              replace kz := keeps hv kz
              try replace r1 := r1.up hv
              try replace r2 := r2.up hv
              try replace r3 := r3.up hv
              try replace kx := kx.up hv
              replace hz := Lib.hid (Nat.le_trans hz.out hv.size)
              clear hv
              refine segS_one 12 _ (by decide) rfl (by kernel_rfl) ?_
              intro vc K hv hK
              replace H := H.up hv
              replace kz := keeps hv kz
              try replace r1 := r1.up hv
              try replace r2 := r2.up hv
              try replace r3 := r3.up hv
              try replace kx := kx.up hv
              replace hz := Lib.hid (Nat.le_trans hz.out hv.size)
              clear hv
              obtain ⟨t0, t1, t2, t3⟩ := blk2 kx
              replace hK := Lib.hid hK
              go_simp
              refine hK.out _ _ (HeldS.set2 (by have := hx.out; omega)) ?_
              clear hK K t0 t1 t2 t3
              replace H := H.far (i := 0) (j := 1) (u := .int .u64 0) (v := .int .u64 0) (by have := hx.out; have := hw0.out; omega) (show g ≠ px by have := hx.out; have := hL.out; omega) (show pc ≠ px by have := hx.out; have := hL.out; omega)
              replace kz := store2_far (u := .int .u64 0) (v := .int .u64 0) kz (show q ≠ px by have := hx.out; have := hL.out; omega)
              replace r1 := r1.far (i := 0) (j := 1) (u := .int .u64 0) (v := .int .u64 0) (show g1 ≠ px by have := hx.out; have := hL.out; omega)
              replace r2 := r2.far (i := 0) (j := 1) (u := .int .u64 0) (v := .int .u64 0) (show g2 ≠ px by have := hx.out; have := hL.out; omega)
              replace hz := Lib.hid (show wc.heap.size ≤ ((vc.setCell ⟨px, 0, none⟩ (.int .u64 0)).setCell ⟨px, 1, none⟩ (.int .u64 0)).heap.size by simp [World.setCell]; exact hz.out)
              clear kx
              refine segS_one 13 _ (by decide) rfl (by kernel_rfl) ?_
              intro vd K hv hK
              replace H := H.up hv
              replace kz := keeps hv kz
              try replace r1 := r1.up hv
              try replace r2 := r2.up hv
              try replace r3 := r3.up hv
              try replace kx := kx.up hv
              replace hz := Lib.hid (Nat.le_trans hz.out hv.size)
              clear hv
              replace hK := Lib.hid hK
              go_simp
              refine hK.out _ _ (HeldS.refl _ _) ?_
              clear hK K
              refine segS_done rfl (by kernel_rfl) ?_
              intro vz hv
              replace H := H.up hv
              replace kz := keeps hv kz
              try replace r1 := r1.up hv
              try replace r2 := r2.up hv
              try replace r3 := r3.up hv
              try replace kx := kx.up hv
              replace hz := Lib.hid (Nat.le_trans hz.out hv.size)
              clear hv
              go_wp2
              go_meet
              exact ⟨rfl, H, kz, r1, r2⟩
          · refine ⟨by decide, _, rfl, fun v1 K hv hK => ?_⟩
            replace H := H.up hv
            replace kz := keeps hv kz
            try replace r1 := r1.up hv
            try replace r2 := r2.up hv
            try replace r3 := r3.up hv
            try replace kx := kx.up hv
            replace hz := Lib.hid (Nat.le_trans hz.out hv.size)
            clear hv
            replace hK := Lib.hid hK
            go_simp
            have hv := (Below.refl v1.heap.size v1).alloc (Nat.le_refl _) (.cells #[.int .u64 0, .int .u64 0] 56)
            refine hK.out _ _ (HeldS.of_below hv) ?_
            clear hK K
            have hx := hz
            replace H := H.up hv
            replace kz := keeps hv kz
            try replace r1 := r1.up hv
            try replace r2 := r2.up hv
            try replace r3 := r3.up hv
            try replace kx := kx.up hv
            replace hz := Lib.hid (Nat.le_trans hz.out hv.size)
            clear hv
            have kx : Holds (v1.alloc (.cells #[.int .u64 0, .int .u64 0] 56)) v1.heap.size 0 := alloc_at rfl
            generalize v1.alloc (.cells #[.int .u64 0, .int .u64 0] 56) = v1' at *
            generalize v1.heap.size = px at *
            refine segS_one 3 _ (by decide) rfl (by kernel_rfl) ?_
            intro v2 K hv hK
            replace H := H.up hv
            replace kz := keeps hv kz
            try replace r1 := r1.up hv
            try replace r2 := r2.up hv
            try replace r3 := r3.up hv
            try replace kx := kx.up hv
            replace hz := Lib.hid (Nat.le_trans hz.out hv.size)
            clear hv
            replace hK := Lib.hid hK
            go_simp
            have hv := (Below.refl v2.heap.size v2).alloc (Nat.le_refl _) (.cells #[.int .u64 0, .int .u64 0] 56)
            refine hK.out _ _ (HeldS.of_below hv) ?_
            clear hK K
            replace H := H.up hv
            replace kz := keeps hv kz
            try replace r1 := r1.up hv
            try replace r2 := r2.up hv
            try replace r3 := r3.up hv
            try replace kx := kx.up hv
            replace hz := Lib.hid (Nat.le_trans hz.out hv.size)
            clear hv
            have r3 : Row (v2.alloc (.cells #[.int .u64 0, .int .u64 0] 56)) v2.heap.size [0] := alloc_at rfl
            generalize v2.alloc (.cells #[.int .u64 0, .int .u64 0] 56) = v2' at *
            generalize v2.heap.size = p3 at *
            refine segS_one 4 _ (by decide) rfl (by kernel_rfl) ?_
            intro v3 K hv hK
            replace H := H.up hv
            replace kz := keeps hv kz
            try replace r1 := r1.up hv
            try replace r2 := r2.up hv
            try replace r3 := r3.up hv
            try replace kx := kx.up hv
            replace hz := Lib.hid (Nat.le_trans hz.out hv.size)
            clear hv
            refine wp_append_full rfl _ _ rfl g1 I p3 _ 0 rfl r1 (by simp) (by omega) rfl r3 ?_
            intro v' cz hv
            refine hK _ _ (HeldS.of_below hv) ?_
            clear hK K
            replace H := H.up hv
            replace kz := keeps hv kz
            try replace r1 := r1.up hv
            try replace r2 := r2.up hv
            try replace r3 := r3.up hv
            try replace kx := kx.up hv
            replace hz := Lib.hid (Nat.le_trans hz.out hv.size)
            clear hv
            generalize v3.heap.size = p4 at *
            refine segS_one 7 _ (by decide) rfl (by kernel_rfl) ?_
            intro v4 K hv hK
            replace H := H.up hv
            replace kz := keeps hv kz
            try replace r1 := r1.up hv
            try replace r2 := r2.up hv
            try replace r3 := r3.up hv
            try replace kx := kx.up hv
            replace hz := Lib.hid (Nat.le_trans hz.out hv.size)
            clear hv
            replace hK := Lib.hid hK
            go_simp
            refine (hRs.out p4 cz _).mono ?_
            rintro e v' ⟨rfl, hv⟩
            refine hK.out _ _ (HeldS.of_below hv) ?_
            clear hK K
            replace H := H.up hv
            replace kz := keeps hv kz
            try replace r1 := r1.up hv
            try replace r2 := r2.up hv
            try replace r3 := r3.up hv
            try replace kx := kx.up hv
            replace hz := Lib.hid (Nat.le_trans hz.out hv.size)
            clear hv
            refine segS_batch 2 [8, 9, 10] (by kernel_rfl) rfl (by kernel_rfl) (by kernel_rfl) (by kernel_rfl) ?_
            apply Exists.intro
            refine ⟨fun ι _ φ hφ => ?_, fun vb hv => ?_⟩
            · repeat (refine pick_step rfl ?_; go_big_quiet_step (fail))
              exact pick_end
            replace H := H.up hv
            replace kz := keeps hv kz
            try replace r1 := r1.up hv
            try replace r2 := r2.up hv
            try replace r3 := r3.up hv
            try replace kx := kx.up hv
            replace hz := Lib.hid (Nat.le_trans hz.out hv.size)
            clear hv
            refine segS_one 12 _ (by decide) rfl (by kernel_rfl) ?_
            intro vc K hv hK
            replace H := H.up hv
            replace kz := keeps hv kz
            try replace r1 := r1.up hv
            try replace r2 := r2.up hv
            try replace r3 := r3.up hv
            try replace kx := kx.up hv
            replace hz := Lib.hid (Nat.le_trans hz.out hv.size)
            clear hv
            obtain ⟨t0, t1, t2, t3⟩ := blk2 kx
            replace hK := Lib.hid hK
            go_simp
            refine hK.out _ _ (HeldS.set2 (by have := hx.out; omega)) ?_
            clear hK K t0 t1 t2 t3
            replace H := H.far (i := 0) (j := 1) (u := .int .u64 0) (v := .int .u64 0) (by have := hx.out; have := hw0.out; omega) (show g ≠ px by have := hx.out; have := hL.out; omega) (show pc ≠ px by have := hx.out; have := hL.out; omega)
            replace kz := store2_far (u := .int .u64 0) (v := .int .u64 0) kz (show q ≠ px by have := hx.out; have := hL.out; omega)
            replace r1 := r1.far (i := 0) (j := 1) (u := .int .u64 0) (v := .int .u64 0) (show g1 ≠ px by have := hx.out; have := hL.out; omega)
            replace r2 := r2.far (i := 0) (j := 1) (u := .int .u64 0) (v := .int .u64 0) (show g2 ≠ px by have := hx.out; have := hL.out; omega)
            replace hz := Lib.hid (show wc.heap.size ≤ ((vc.setCell ⟨px, 0, none⟩ (.int .u64 0)).setCell ⟨px, 1, none⟩ (.int .u64 0)).heap.size by simp [World.setCell]; exact hz.out)
            clear kx
            refine segS_one 13 _ (by decide) rfl (by kernel_rfl) ?_
            intro vd K hv hK
            replace H := H.up hv
            replace kz := keeps hv kz
            try replace r1 := r1.up hv
            try replace r2 := r2.up hv
            try replace r3 := r3.up hv
            try replace kx := kx.up hv
            replace hz := Lib.hid (Nat.le_trans hz.out hv.size)
            clear hv
            replace hK := Lib.hid hK
            go_simp
            refine hK.out _ _ (HeldS.refl _ _) ?_
            clear hK K
            refine segS_done rfl (by kernel_rfl) ?_
            intro vz hv
            replace H := H.up hv
            replace kz := keeps hv kz
            try replace r1 := r1.up hv
            try replace r2 := r2.up hv
            try replace r3 := r3.up hv
            try replace kx := kx.up hv
            replace hz := Lib.hid (Nat.le_trans hz.out hv.size)
            clear hv
            go_wp2
            go_meet
            exact ⟨rfl, H, kz, r1, r2⟩
        clear H kz r1 r2
        obtain ⟨rfl, H, kz, r1, r2⟩ := hcut
        go_upto_region 18 with (fail)
        go_cut [27] (fun a w' => a = .int .i64 9 ∧ ErrW w pc g c X code w' ∧ w'.heap[q]? = some (.cells (ccells y).toArray 25 (0, 0)) ∧ Row w' g1 (List.replicate I 0) ∧ Row w' g2 (List.replicate J 0))
        case first =>
          have hz := Lib.hid (Nat.le_refl wc.heap.size)
          have hL := Lib.hid (And.intro (lt_of_get H.kp) (And.intro (lt_of_get H.ke) (And.intro (lt_of_get kz) (And.intro (lt_of_get r1) (lt_of_get r2)))))
          have hw0 := Lib.hid H.hb.size
          refine segS_start (gb := fun k => k < wc.heap.size) 14 (by kernel_rfl) (by decide) ?_
          intro v0 hv
          replace H := H.up hv
          replace kz := keeps hv kz
          try replace r1 := r1.up hv
          try replace r2 := r2.up hv
          try replace r3 := r3.up hv
          try replace kx := kx.up hv
          replace hz := Lib.hid (Nat.le_trans hz.out hv.size)
          clear hv
          have hRs := Lib.hid (fun p4 cz w => run_size y (some ⟨g1, 0, none⟩) (some ⟨p4, 0, none⟩) I I (J + 1) cz 2 54 #[.pointer (some ⟨pc, 0, none⟩)] hg.out (.inr (by rw [hJ.out]; omega)) w)
          unfold cvl RunBad at hRs
          refine segS_batch 9 [0, 1, 2, 3, 6] (by kernel_rfl) rfl (by kernel_rfl) (by kernel_rfl) (by kernel_rfl) ?_
          apply Exists.intro
          refine ⟨fun ι _ φ hφ => ?_, fun vb hv => ?_⟩
          · have qd := fun i => blk6w ((hφ.old i).keeps kz hL.out.2.2.1)
            have q0 := fun i => (qd i).1
            have q1 := fun i => (qd i).2.1
            have q2 := fun i => (qd i).2.2.1
            have q3 := fun i => (qd i).2.2.2.1
            have q4 := fun i => (qd i).2.2.2.2.1
            have q5 := fun i => (qd i).2.2.2.2.2
            clear qd
            repeat (refine pick_step rfl ?_; go_big_quiet_step (fail))
            exact pick_end
          replace H := H.up hv
          replace kz := keeps hv kz
          try replace r1 := r1.up hv
          try replace r2 := r2.up hv
          try replace r3 := r3.up hv
          try replace kx := kx.up hv
          replace hz := Lib.hid (Nat.le_trans hz.out hv.size)
          clear hv
          refine segS_more [4, 11] (by kernel_rfl) (by decide) ?_
          intro y' hy'
          simp only [List.mem_cons, List.not_mem_nil, or_false] at hy'
          rcases hy' with rfl | rfl
          · refine ⟨by decide, _, rfl, fun v1 K hv hK => ?_⟩
            replace H := H.up hv
            replace kz := keeps hv kz
            try replace r1 := r1.up hv
            try replace r2 := r2.up hv
            try replace r3 := r3.up hv
            try replace kx := kx.up hv
            replace hz := Lib.hid (Nat.le_trans hz.out hv.size)
            clear hv
            replace hK := Lib.hid hK
            go_simp
            have hv := (Below.refl v1.heap.size v1).alloc (Nat.le_refl _) (.cells #[.int .u64 0, .int .u64 0] 56)
            refine hK.out _ _ (HeldS.of_below hv) ?_
            clear hK K
            replace H := H.up hv
            replace kz := keeps hv kz
            try replace r1 := r1.up hv
            try replace r2 := r2.up hv
            try replace r3 := r3.up hv
            try replace kx := kx.up hv
            replace hz := Lib.hid (Nat.le_trans hz.out hv.size)
            clear hv
            have r3 : Row (v1.alloc (.cells #[.int .u64 0, .int .u64 0] 56)) v1.heap.size [0] := alloc_at rfl
            generalize v1.alloc (.cells #[.int .u64 0, .int .u64 0] 56) = v1' at *
            generalize v1.heap.size = p3 at *
            refine segS_more [5, 11] (by kernel_rfl) (by decide) ?_
            intro y' hy'
            simp only [List.mem_cons, List.not_mem_nil, or_false] at hy'
            rcases hy' with rfl | rfl
            · refine ⟨by decide, _, rfl, fun v2 K hv hK => ?_⟩
              replace H := H.up hv
              replace kz := keeps hv kz
              try replace r1 := r1.up hv
              try replace r2 := r2.up hv
              try replace r3 := r3.up hv
              try replace kx := kx.up hv
              replace hz := Lib.hid (Nat.le_trans hz.out hv.size)
              clear hv
              refine wp_append_full rfl _ _ rfl g2 J p3 _ 0 rfl r2 (by simp) (by omega) rfl r3 ?_
              intro v' cz hv
              refine hK _ _ (HeldS.of_below hv) ?_
              clear hK K
              replace H := H.up hv
              replace kz := keeps hv kz
              try replace r1 := r1.up hv
              try replace r2 := r2.up hv
              try replace r3 := r3.up hv
              try replace kx := kx.up hv
              replace hz := Lib.hid (Nat.le_trans hz.out hv.size)
              clear hv
              generalize v2.heap.size = p4 at *
              refine segS_more [7, 11] (by kernel_rfl) (by decide) ?_
              intro y' hy'
              simp only [List.mem_cons, List.not_mem_nil, or_false] at hy'
              rcases hy' with rfl | rfl
              · refine ⟨by decide, _, rfl, fun v3 K hv hK => ?_⟩
                replace H := H.up hv
                replace kz := keeps hv kz
                try replace r1 := r1.up hv
                try replace r2 := r2.up hv
                try replace r3 := r3.up hv
                try replace kx := kx.up hv
                replace hz := Lib.hid (Nat.le_trans hz.out hv.size)
                clear hv
                replace hK := Lib.hid hK
                go_simp
                refine (hRs.out p4 cz _).mono ?_
                rintro e v' ⟨rfl, hv⟩
                refine hK.out _ _ (HeldS.of_below hv) ?_
                clear hK K
                replace H := H.up hv
                replace kz := keeps hv kz
                try replace r1 := r1.up hv
                try replace r2 := r2.up hv
                try replace r3 := r3.up hv
                try replace kx := kx.up hv
                replace hz := Lib.hid (Nat.le_trans hz.out hv.size)
                clear hv
                refine segS_batch 3 [8, 9, 10] (by kernel_rfl) rfl (by kernel_rfl) (by kernel_rfl) (by kernel_rfl) ?_
                apply Exists.intro
                refine ⟨fun ι _ φ hφ => ?_, fun vb hv => ?_⟩
                · repeat (refine pick_step rfl ?_; go_big_quiet_step (fail))
                  exact pick_end
                replace H := H.up hv
                replace kz := keeps hv kz
                try replace r1 := r1.up hv
                try replace r2 := r2.up hv
                try replace r3 := r3.up hv
                try replace kx := kx.up hv
                replace hz := Lib.hid (Nat.le_trans hz.out hv.size)
                clear hv
                refine segS_one 11 _ (by decide) rfl (by kernel_rfl) ?_
                intro v4 K hv hK
                replace H := H.up hv
                replace kz := keeps hv kz
                try replace r1 := r1.up hv
                try replace r2 := r2.up hv
                try replace r3 := r3.up hv
                try replace kx := kx.up hv
                replace hz := Lib.hid (Nat.le_trans hz.out hv.size)
                clear hv
                replace hK := Lib.hid hK
                go_simp
                have hv := (Below.refl v4.heap.size v4).alloc (Nat.le_refl _) (.cells #[.int .u64 0, .int .u64 0] 56)
                refine hK.out _ _ (HeldS.of_below hv) ?_
                clear hK K
                have hx := hz
                replace H := H.up hv
                replace kz := keeps hv kz
                try replace r1 := r1.up hv
                try replace r2 := r2.up hv
                try replace r3 := r3.up hv
                try replace kx := kx.up hv
                replace hz := Lib.hid (Nat.le_trans hz.out hv.size)
                clear hv
                have kx : Holds (v4.alloc (.cells #[.int .u64 0, .int .u64 0] 56)) v4.heap.size 0 := alloc_at rfl
                generalize v4.alloc (.cells #[.int .u64 0, .int .u64 0] 56) = v4' at *
                generalize v4.heap.size = px at *
                refine segS_one 12 _ (by decide) rfl (by kernel_rfl) ?_
                intro vc K hv hK
                replace H := H.up hv
                replace kz := keeps hv kz
                try replace r1 := r1.up hv
                try replace r2 := r2.up hv
                try replace r3 := r3.up hv
                try replace kx := kx.up hv
                replace hz := Lib.hid (Nat.le_trans hz.out hv.size)
                clear hv
                obtain ⟨t0, t1, t2, t3⟩ := blk2 kx
                replace hK := Lib.hid hK
                go_simp
                refine hK.out _ _ (HeldS.set2 (by have := hx.out; omega)) ?_
                clear hK K t0 t1 t2 t3
                replace H := H.far (i := 0) (j := 1) (u := .int .u64 0) (v := .int .u64 0) (by have := hx.out; have := hw0.out; omega) (show g ≠ px by have := hx.out; have := hL.out; omega) (show pc ≠ px by have := hx.out; have := hL.out; omega)
                replace kz := store2_far (u := .int .u64 0) (v := .int .u64 0) kz (show q ≠ px by have := hx.out; have := hL.out; omega)
                replace r1 := r1.far (i := 0) (j := 1) (u := .int .u64 0) (v := .int .u64 0) (show g1 ≠ px by have := hx.out; have := hL.out; omega)
                replace r2 := r2.far (i := 0) (j := 1) (u := .int .u64 0) (v := .int .u64 0) (show g2 ≠ px by have := hx.out; have := hL.out; omega)
                replace hz := Lib.hid (show wc.heap.size ≤ ((vc.setCell ⟨px, 0, none⟩ (.int .u64 0)).setCell ⟨px, 1, none⟩ (.int .u64 0)).heap.size by simp [World.setCell]; exact hz.out)
                clear kx
                refine segS_one 13 _ (by decide) rfl (by kernel_rfl) ?_
                intro vd K hv hK
                replace H := H.up hv
                replace kz := keeps hv kz
                try replace r1 := r1.up hv
                try replace r2 := r2.up hv
                try replace r3 := r3.up hv
                try replace kx := kx.up hv
                replace hz := Lib.hid (Nat.le_trans hz.out hv.size)
                clear hv
                replace hK := Lib.hid hK
                go_simp
                refine hK.out _ _ (HeldS.refl _ _) ?_
                clear hK K
                refine segS_done rfl (by kernel_rfl) ?_
                intro vz hv
                replace H := H.up hv
                replace kz := keeps hv kz
                try replace r1 := r1.up hv
                try replace r2 := r2.up hv
                try replace r3 := r3.up hv
                try replace kx := kx.up hv
                replace hz := Lib.hid (Nat.le_trans hz.out hv.size)
                clear hv
                go_wp2
                go_meet
                exact ⟨rfl, H, kz, r1, r2⟩
              · refine ⟨by decide, _, rfl, fun v3 K hv hK => ?_⟩
                replace H := H.up hv
                replace kz := keeps hv kz
                try replace r1 := r1.up hv
                try replace r2 := r2.up hv
                try replace r3 := r3.up hv
                try replace kx := kx.up hv
                replace hz := Lib.hid (Nat.le_trans hz.out hv.size)
                clear hv
                replace hK := Lib.hid hK
                go_simp
                have hv := (Below.refl v3.heap.size v3).alloc (Nat.le_refl _) (.cells #[.int .u64 0, .int .u64 0] 56)
                refine hK.out _ _ (HeldS.of_below hv) ?_
                clear hK K
                have hx := hz
                replace H := H.up hv
                replace kz := keeps hv kz
                try replace r1 := r1.up hv
                try replace r2 := r2.up hv
                try replace r3 := r3.up hv
                try replace kx := kx.up hv
                replace hz := Lib.hid (Nat.le_trans hz.out hv.size)
                clear hv
                have kx : Holds (v3.alloc (.cells #[.int .u64 0, .int .u64 0] 56)) v3.heap.size 0 := alloc_at rfl
                generalize v3.alloc (.cells #[.int .u64 0, .int .u64 0] 56) = v3' at *
                generalize v3.heap.size = px at *
                refine segS_one 7 _ (by decide) rfl (by kernel_rfl) ?_
                intro v4 K hv hK
                replace H := H.up hv
                replace kz := keeps hv kz
                try replace r1 := r1.up hv
                try replace r2 := r2.up hv
                try replace r3 := r3.up hv
                try replace kx := kx.up hv
                replace hz := Lib.hid (Nat.le_trans hz.out hv.size)
                clear hv
                replace hK := Lib.hid hK
                go_simp
                refine (hRs.out p4 cz _).mono ?_
                rintro e v' ⟨rfl, hv⟩
                refine hK.out _ _ (HeldS.of_below hv) ?_
                clear hK K
                replace H := H.up hv
                replace kz := keeps hv kz
                try replace r1 := r1.up hv
                try replace r2 := r2.up hv
                try replace r3 := r3.up hv
                try replace kx := kx.up hv
                replace hz := Lib.hid (Nat.le_trans hz.out hv.size)
                clear hv
                refine segS_batch 2 [8, 9, 10] (by kernel_rfl) rfl (by kernel_rfl) (by kernel_rfl) (by kernel_rfl) ?_
                apply Exists.intro
                refine ⟨fun ι _ φ hφ => ?_, fun vb hv => ?_⟩
                · repeat (refine pick_step rfl ?_; go_big_quiet_step (fail))
                  exact pick_end
                replace H := H.up hv
                replace kz := keeps hv kz
                try replace r1 := r1.up hv
                try replace r2 := r2.up hv
                try replace r3 := r3.up hv
                try replace kx := kx.up hv
                replace hz := Lib.hid (Nat.le_trans hz.out hv.size)
                clear hv
                refine segS_one 12 _ (by decide) rfl (by kernel_rfl) ?_
                intro vc K hv hK
                replace H := H.up hv
                replace kz := keeps hv kz
                try replace r1 := r1.up hv
                try replace r2 := r2.up hv
                try replace r3 := r3.up hv
                try replace kx := kx.up hv
                replace hz := Lib.hid (Nat.le_trans hz.out hv.size)
                clear hv
                obtain ⟨t0, t1, t2, t3⟩ := blk2 kx
                replace hK := Lib.hid hK
                go_simp
                refine hK.out _ _ (HeldS.set2 (by have := hx.out; omega)) ?_
                clear hK K t0 t1 t2 t3
                replace H := H.far (i := 0) (j := 1) (u := .int .u64 0) (v := .int .u64 0) (by have := hx.out; have := hw0.out; omega) (show g ≠ px by have := hx.out; have := hL.out; omega) (show pc ≠ px by have := hx.out; have := hL.out; omega)
                replace kz := store2_far (u := .int .u64 0) (v := .int .u64 0) kz (show q ≠ px by have := hx.out; have := hL.out; omega)
                replace r1 := r1.far (i := 0) (j := 1) (u := .int .u64 0) (v := .int .u64 0) (show g1 ≠ px by have := hx.out; have := hL.out; omega)
                replace r2 := r2.far (i := 0) (j := 1) (u := .int .u64 0) (v := .int .u64 0) (show g2 ≠ px by have := hx.out; have := hL.out; omega)
                replace hz := Lib.hid (show wc.heap.size ≤ ((vc.setCell ⟨px, 0, none⟩ (.int .u64 0)).setCell ⟨px, 1, none⟩ (.int .u64 0)).heap.size by simp [World.setCell]; exact hz.out)
                clear kx
                refine segS_one 13 _ (by decide) rfl (by kernel_rfl) ?_
                intro vd K hv hK
                replace H := H.up hv
                replace kz := keeps hv kz
                try replace r1 := r1.up hv
                try replace r2 := r2.up hv
                try replace r3 := r3.up hv
                try replace kx := kx.up hv
                replace hz := Lib.hid (Nat.le_trans hz.out hv.size)
                clear hv
                replace hK := Lib.hid hK
                go_simp
                refine hK.out _ _ (HeldS.refl _ _) ?_
                clear hK K
                refine segS_done rfl (by kernel_rfl) ?_
                intro vz hv
                replace H := H.up hv
                replace kz := keeps hv kz
                try replace r1 := r1.up hv
                try replace r2 := r2.up hv
                try replace r3 := r3.up hv
                try replace kx := kx.up hv
                replace hz := Lib.hid (Nat.le_trans hz.out hv.size)
                clear hv
                go_wp2
                go_meet
                exact ⟨rfl, H, kz, r1, r2⟩
            · refine ⟨by decide, _, rfl, fun v2 K hv hK => ?_⟩
              replace H := H.up hv
              replace kz := keeps hv kz
              try replace r1 := r1.up hv
              try replace r2 := r2.up hv
              try replace r3 := r3.up hv
              try replace kx := kx.up hv
              replace hz := Lib.hid (Nat.le_trans hz.out hv.size)
              clear hv
              replace hK := Lib.hid hK
              go_simp
              have hv := (Below.refl v2.heap.size v2).alloc (Nat.le_refl _) (.cells #[.int .u64 0, .int .u64 0] 56)
              refine hK.out _ _ (HeldS.of_below hv) ?_
              clear hK K
              have hx := hz
              replace H := H.up hv
              replace kz := keeps hv kz
              try replace r1 := r1.up hv
              try replace r2 := r2.up hv
              try replace r3 := r3.up hv
              try replace kx := kx.up hv
              replace hz := Lib.hid (Nat.le_trans hz.out hv.size)
              clear hv
              have kx : Holds (v2.alloc (.cells #[.int .u64 0, .int .u64 0] 56)) v2.heap.size 0 := alloc_at rfl
              generalize v2.alloc (.cells #[.int .u64 0, .int .u64 0] 56) = v2' at *
              generalize v2.heap.size = px at *
              refine segS_one 5 _ (by decide) rfl (by kernel_rfl) ?_
              intro v3 K hv hK
              replace H := H.up hv
              replace kz := keeps hv kz
              try replace r1 := r1.up hv
              try replace r2 := r2.up hv
              try replace r3 := r3.up hv
              try replace kx := kx.up hv
              replace hz := Lib.hid (Nat.le_trans hz.out hv.size)
              clear hv
              refine wp_append_full rfl _ _ rfl g2 J p3 _ 0 rfl r2 (by simp) (by omega) rfl r3 ?_
              intro v' cz hv
              refine hK _ _ (HeldS.of_below hv) ?_
              clear hK K
              replace H := H.up hv
              replace kz := keeps hv kz
              try replace r1 := r1.up hv
              try replace r2 := r2.up hv
              try replace r3 := r3.up hv
              try replace kx := kx.up hv
              replace hz := Lib.hid (Nat.le_trans hz.out hv.size)
              clear hv
              generalize v3.heap.size = p4 at *
              refine segS_one 7 _ (by decide) rfl (by kernel_rfl) ?_
              intro v4 K hv hK
              replace H := H.up hv
              replace kz := keeps hv kz
              try replace r1 := r1.up hv
              try replace r2 := r2.up hv
              try replace r3 := r3.up hv
              try replace kx := kx.up hv
              replace hz := Lib.hid (Nat.le_trans hz.out hv.size)
              clear hv
              replace hK := Lib.hid hK
              go_simp
              refine (hRs.out p4 cz _).mono ?_
              rintro e v' ⟨rfl, hv⟩
              refine hK.out _ _ (HeldS.of_below hv) ?_
              clear hK K
              replace H := H.up hv
              replace kz := keeps hv kz
              try replace r1 := r1.up hv
              try replace r2 := r2.up hv
              try replace r3 := r3.up hv
              try replace kx := kx.up hv
              replace hz := Lib.hid (Nat.le_trans hz.out hv.size)
              clear hv
              refine segS_batch 2 [8, 9, 10] (by kernel_rfl) rfl (by kernel_rfl) (by kernel_rfl) (by kernel_rfl) ?_
              apply Exists.intro
              refine ⟨fun ι _ φ hφ => ?_, fun vb hv => ?_⟩
              · repeat (refine pick_step rfl ?_; go_big_quiet_step (fail))
                exact pick_end
              replace H := H.up hv
              replace kz := keeps hv kz
              try replace r1 := r1.up hv
              try replace r2 := r2.up hv
              try replace r3 := r3.up hv
              try replace kx := kx.up hv
              replace hz := Lib.hid (Nat.le_trans hz.out hv.size)
              clear hv
              refine segS_one 12 _ (by decide) rfl (by kernel_rfl) ?_
              intro vc K hv hK
              replace H := H.up hv
              replace kz := keeps hv kz
              try replace r1 := r1.up hv
              try replace r2 := r2.up hv
              try replace r3 := r3.up hv
              try replace kx := kx.up hv
              replace hz := Lib.hid (Nat.le_trans hz.out hv.size)
              clear hv
              obtain ⟨t0, t1, t2, t3⟩ := blk2 kx
              replace hK := Lib.hid hK
              go_simp
              refine hK.out _ _ (HeldS.set2 (by have := hx.out; omega)) ?_
              clear hK K t0 t1 t2 t3
              replace H := H.far (i := 0) (j := 1) (u := .int .u64 0) (v := .int .u64 0) (by have := hx.out; have := hw0.out; omega) (show g ≠ px by have := hx.out; have := hL.out; omega) (show pc ≠ px by have := hx.out; have := hL.out; omega)
              replace kz := store2_far (u := .int .u64 0) (v := .int .u64 0) kz (show q ≠ px by have := hx.out; have := hL.out; omega)
              replace r1 := r1.far (i := 0) (j := 1) (u := .int .u64 0) (v := .int .u64 0) (show g1 ≠ px by have := hx.out; have := hL.out; omega)
              replace r2 := r2.far (i := 0) (j := 1) (u := .int .u64 0) (v := .int .u64 0) (show g2 ≠ px by have := hx.out; have := hL.out; omega)
              replace hz := Lib.hid (show wc.heap.size ≤ ((vc.setCell ⟨px, 0, none⟩ (.int .u64 0)).setCell ⟨px, 1, none⟩ (.int .u64 0)).heap.size by simp [World.setCell]; exact hz.out)
              clear kx
              refine segS_one 13 _ (by decide) rfl (by kernel_rfl) ?_
              intro vd K hv hK
              replace H := H.up hv
              replace kz := keeps hv kz
              try replace r1 := r1.up hv
              try replace r2 := r2.up hv
              try replace r3 := r3.up hv
              try replace kx := kx.up hv
              replace hz := Lib.hid (Nat.le_trans hz.out hv.size)
              clear hv
              replace hK := Lib.hid hK
              go_simp
              refine hK.out _ _ (HeldS.refl _ _) ?_
              clear hK K
              refine segS_done rfl (by kernel_rfl) ?_
              intro vz hv
              replace H := H.up hv
              replace kz := keeps hv kz
              try replace r1 := r1.up hv
              try replace r2 := r2.up hv
              try replace r3 := r3.up hv
              try replace kx := kx.up hv
              replace hz := Lib.hid (Nat.le_trans hz.out hv.size)
              clear hv
              go_wp2
              go_meet
              exact ⟨rfl, H, kz, r1, r2⟩
          · refine ⟨by decide, _, rfl, fun v1 K hv hK => ?_⟩
            replace H := H.up hv
            replace kz := keeps hv kz
            try replace r1 := r1.up hv
            try replace r2 := r2.up hv
            try replace r3 := r3.up hv
            try replace kx := kx.up hv
            replace hz := Lib.hid (Nat.le_trans hz.out hv.size)
            clear hv
            replace hK := Lib.hid hK
            go_simp
            have hv := (Below.refl v1.heap.size v1).alloc (Nat.le_refl _) (.cells #[.int .u64 0, .int .u64 0] 56)
            refine hK.out _ _ (HeldS.of_below hv) ?_
            clear hK K
            have hx := hz
            replace H := H.up hv
            replace kz := keeps hv kz
            try replace r1 := r1.up hv
            try replace r2 := r2.up hv
            try replace r3 := r3.up hv
            try replace kx := kx.up hv
            replace hz := Lib.hid (Nat.le_trans hz.out hv.size)
            clear hv
            have kx : Holds (v1.alloc (.cells #[.int .u64 0, .int .u64 0] 56)) v1.heap.size 0 := alloc_at rfl
            generalize v1.alloc (.cells #[.int .u64 0, .int .u64 0] 56) = v1' at *
            generalize v1.heap.size = px at *
            refine segS_one 4 _ (by decide) rfl (by kernel_rfl) ?_
            intro v2 K hv hK
            replace H := H.up hv
            replace kz := keeps hv kz
            try replace r1 := r1.up hv
            try replace r2 := r2.up hv
            try replace r3 := r3.up hv
            try replace kx := kx.up hv
            replace hz := Lib.hid (Nat.le_trans hz.out hv.size)
            clear hv
            replace hK := Lib.hid hK
            go_simp
            have hv := (Below.refl v2.heap.size v2).alloc (Nat.le_refl _) (.cells #[.int .u64 0, .int .u64 0] 56)
            refine hK.out _ _ (HeldS.of_below hv) ?_
            clear hK K
            replace H := H.up hv
            replace kz := keeps hv kz
            try replace r1 := r1.up hv
            try replace r2 := r2.up hv
            try replace r3 := r3.up hv
            try replace kx := kx.up hv
            replace hz := Lib.hid (Nat.le_trans hz.out hv.size)
            clear hv
            have r3 : Row (v2.alloc (.cells #[.int .u64 0, .int .u64 0] 56)) v2.heap.size [0] := alloc_at rfl
            generalize v2.alloc (.cells #[.int .u64 0, .int .u64 0] 56) = v2' at *
            generalize v2.heap.size = p3 at *
            refine segS_one 5 _ (by decide) rfl (by kernel_rfl) ?_
            intro v3 K hv hK
            replace H := H.up hv
            replace kz := keeps hv kz
            try replace r1 := r1.up hv
            try replace r2 := r2.up hv
            try replace r3 := r3.up hv
            try replace kx := kx.up hv
            replace hz := Lib.hid (Nat.le_trans hz.out hv.size)
            clear hv
            refine wp_append_full rfl _ _ rfl g2 J p3 _ 0 rfl r2 (by simp) (by omega) rfl r3 ?_
            intro v' cz hv
            refine hK _ _ (HeldS.of_below hv) ?_
            clear hK K
            replace H := H.up hv
            replace kz := keeps hv kz
            try replace r1 := r1.up hv
            try replace r2 := r2.up hv
            try replace r3 := r3.up hv
            try replace kx := kx.up hv
            replace hz := Lib.hid (Nat.le_trans hz.out hv.size)
            clear hv
            generalize v3.heap.size = p4 at *
            refine segS_one 7 _ (by decide) rfl (by kernel_rfl) ?_
            intro v4 K hv hK
            replace H := H.up hv
            replace kz := keeps hv kz
            try replace r1 := r1.up hv
            try replace r2 := r2.up hv
            try replace r3 := r3.up hv
            try replace kx := kx.up hv
            replace hz := Lib.hid (Nat.le_trans hz.out hv.size)
            clear hv
            replace hK := Lib.hid hK
            go_simp
            refine (hRs.out p4 cz _).mono ?_
            rintro e v' ⟨rfl, hv⟩
            refine hK.out _ _ (HeldS.of_below hv) ?_
            clear hK K
            replace H := H.up hv
            replace kz := keeps hv kz
            try replace r1 := r1.up hv
            try replace r2 := r2.up hv
            try replace r3 := r3.up hv
            try replace kx := kx.up hv
            replace hz := Lib.hid (Nat.le_trans hz.out hv.size)
            clear hv
            refine segS_batch 2 [8, 9, 10] (by kernel_rfl) rfl (by kernel_rfl) (by kernel_rfl) (by kernel_rfl) ?_
            apply Exists.intro
            refine ⟨fun ι _ φ hφ => ?_, fun vb hv => ?_⟩
            · repeat (refine pick_step rfl ?_; go_big_quiet_step (fail))
              exact pick_end
            replace H := H.up hv
            replace kz := keeps hv kz
            try replace r1 := r1.up hv
            try replace r2 := r2.up hv
            try replace r3 := r3.up hv
            try replace kx := kx.up hv
            replace hz := Lib.hid (Nat.le_trans hz.out hv.size)
            clear hv
            refine segS_one 12 _ (by decide) rfl (by kernel_rfl) ?_
            intro vc K hv hK
            replace H := H.up hv
            replace kz := keeps hv kz
            try replace r1 := r1.up hv
            try replace r2 := r2.up hv
            try replace r3 := r3.up hv
            try replace kx := kx.up hv
            replace hz := Lib.hid (Nat.le_trans hz.out hv.size)
            clear hv
            obtain ⟨t0, t1, t2, t3⟩ := blk2 kx
            replace hK := Lib.hid hK
            go_simp
            refine hK.out _ _ (HeldS.set2 (by have := hx.out; omega)) ?_
            clear hK K t0 t1 t2 t3
            replace H := H.far (i := 0) (j := 1) (u := .int .u64 0) (v := .int .u64 0) (by have := hx.out; have := hw0.out; omega) (show g ≠ px by have := hx.out; have := hL.out; omega) (show pc ≠ px by have := hx.out; have := hL.out; omega)
            replace kz := store2_far (u := .int .u64 0) (v := .int .u64 0) kz (show q ≠ px by have := hx.out; have := hL.out; omega)
            replace r1 := r1.far (i := 0) (j := 1) (u := .int .u64 0) (v := .int .u64 0) (show g1 ≠ px by have := hx.out; have := hL.out; omega)
            replace r2 := r2.far (i := 0) (j := 1) (u := .int .u64 0) (v := .int .u64 0) (show g2 ≠ px by have := hx.out; have := hL.out; omega)
            replace hz := Lib.hid (show wc.heap.size ≤ ((vc.setCell ⟨px, 0, none⟩ (.int .u64 0)).setCell ⟨px, 1, none⟩ (.int .u64 0)).heap.size by simp [World.setCell]; exact hz.out)
            clear kx
            refine segS_one 13 _ (by decide) rfl (by kernel_rfl) ?_
            intro vd K hv hK
            replace H := H.up hv
            replace kz := keeps hv kz
            try replace r1 := r1.up hv
            try replace r2 := r2.up hv
            try replace r3 := r3.up hv
            try replace kx := kx.up hv
            replace hz := Lib.hid (Nat.le_trans hz.out hv.size)
            clear hv
            replace hK := Lib.hid hK
            go_simp
            refine hK.out _ _ (HeldS.refl _ _) ?_
            clear hK K
            refine segS_done rfl (by kernel_rfl) ?_
            intro vz hv
            replace H := H.up hv
            replace kz := keeps hv kz
            try replace r1 := r1.up hv
            try replace r2 := r2.up hv
            try replace r3 := r3.up hv
            try replace kx := kx.up hv
            replace hz := Lib.hid (Nat.le_trans hz.out hv.size)
            clear hv
            go_wp2
            go_meet
            exact ⟨rfl, H, kz, r1, r2⟩
        clear H kz r1 r2
        obtain ⟨rfl, H, kz, r1, r2⟩ := hcut
        obtain ⟨m0, hm0⟩ : ∃ m0, min sh 0 = m0 := ⟨_, rfl⟩
        have hm1 : m0 ≤ 0 := by omega
        have hDv := Lib.hid (fun w => run_divide y (some ⟨g1, 0, none⟩) (some ⟨g2, 0, none⟩) I I J J m0 54 #[.pointer (some ⟨pc, 0, none⟩)] hg.out hI.out.symm hJ.out.symm hm1 w)
        unfold cvl RunBad at hDv
        clear hm1
        obtain ⟨d0, d1, d2, d3, d4, d5⟩ := blk6w kz
        go_wp2_with fail
        refine call_then (hDv.out _) ?_
        intro w10 hv
        replace H := H.up hv
        replace kz := keeps hv kz
        replace r1 := r1.up hv
        replace r2 := r2.up hv
        clear hv d0 d1 d2 d3 d4 d5 hDv
        go_upto_region 20 with (fail)
        have hv := (Below.refl w10.heap.size w10).alloc (Nat.le_refl _) (.cells #[.int .u64 0, .int .u64 0] 56)
        refine name_wp (fun w11 => ErrW w pc g c X code w11 ∧ w11.heap[q]? = some (.cells (ccells y).toArray 25 (0, 0)) ∧ Row w11 g1 (List.replicate I 0) ∧ Row w11 g2 (List.replicate J 0)) ⟨H.up hv, keeps hv kz, r1.up hv, r2.up hv⟩ ?_
        clear H kz r1 r2 hv hm0
        generalize w10.heap.size = qq2 at *
        clear w10
        rintro w11 ⟨H, kz, r1, r2⟩
        obtain ⟨p, hp⟩ := part_of hg.out.f 2 (by omega) (by omega)
        have hok := run_ok (err_asking pc code) y hg.out (List.replicate I 0) (List.replicate J 0) (some ⟨g1, 0, none⟩) (some ⟨g2, 0, none⟩) I I J J 2 p hp (by simp) hI.out.symm (Nat.le_refl _) hJ.out.symm (by simp) (fun z hz => by rw [List.eq_of_mem_replicate hz]; omega) (fun z hz => by rw [List.eq_of_mem_replicate hz]; omega) () (fun k => k = pc) w11 ⟨rfl, H.ke⟩ r1.elems (fun a e => by cases e; exact hg1) r2.elems (fun a e => by cases e; exact hg2) (fun _ _ => trivial)
        have hok2 := Lib.hid (hok.mono fun e w' h => err_ran h hcp)
        unfold cvl AskOut at hok2
        clear hok hp p
        obtain ⟨d0, d1, d2, d3, d4, d5⟩ := blk6w kz
        go_wp2_with fail
        refine hok2.out.mono ?_
        rintro e w12 ⟨r, rfl, own', hm, hst⟩
        have H9 : ErrW w pc g c X code w12 := ⟨⟨hm.os.trans H.hb.os, hm.tape.trans H.hb.tape, hm.output.trans H.hb.output, Nat.le_trans H.hb.size hm.size, fun k hk => (hm.keep k (Nat.lt_of_lt_of_le hk H.hb.size) (fun e => by have e' : k = pc := e; have := hpc'.out; omega)).1.trans (H.hb.block k hk)⟩, hm.heap (fun e => hgp.out e) H.kp, hst.2⟩
        clear hok2 hm hst H kz r1 r2 d0 d1 d2 d3 d4 d5
        go_upto_region 21 with (fail)
        have hv := (Below.refl w12.heap.size w12).alloc (Nat.le_refl _) (.cells #[.int .u64 (lo r), .int .u64 (hi r)] 56)
        refine name_wp (fun w13 => ErrW w pc g c X code w13) (H9.up hv) ?_
        clear H9 hv
        generalize w12.heap.size = qq3 at *
        intro w13 H
        have e0 : w13.cell? ⟨pc, 0, none⟩ = some (.int .i64 code) := by simp [World.cell?, H.ke]
        have hcc : (code != code) = false := by simp
        go_wp2
        exact ⟨⟨n + 1, by omega, by go_num, H⟩, by simp [intOf]; omega⟩
      · have n0 : (y.code != 0) = true := by simpa using hc0
        have hB := Lib.hid (fun w => run_code y A A2 N cp N2 cp2 sh (.func (.func 54) #[] #[.pointer (some ⟨pc, 0, none⟩)]) hc0 w)
        unfold cvl RunBad at hB
        generalize y.code = E at *
        have hee : (E != E) = false := by simp
        clear hc0
        go_wp2_with fail
        refine call_then (hB.out _) ?_
        intro w9 hv
        replace H := H.up hv
        replace kz := keeps hv kz
        clear hv d0 d1 d2 d3 d4 d5 hB
        go_upto_region 13 with (fail)
        refine name_wp (fun w10 => ErrW w pc g c X code w10) (H.up ((Below.refl _ _).alloc (Nat.le_refl _) _)) ?_
        clear H kz
        generalize w9.heap.size = qq at *
        intro w10 H
        go_wp2
        exact ⟨⟨n + 1, by omega, by go_num, H⟩, by simp [intOf]; omega⟩
    · obtain rfl : n = 2 := by omega
      go_wp2
      go_ret
      exact ⟨rfl, H.hb⟩
end Go.Proofs.Ytgdokfchfgnbbaa
