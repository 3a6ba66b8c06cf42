/-
  ProofErrors: the walk.
-/
import Derived.Test.YtebgfelbffgnbaaGreatDoorPfQ
import Derived.Test.YtebgfelbffgnbaaGreatDoorDD
namespace Go.Proofs.YtebgfelbffgnbaaGreatDoor
open Go.RowKit Flow F
set_option linter.unusedVariables false
set_option linter.unusedSimpArgs false
attribute [local go_sem] eql_elem

theorem pow2_is (n : Nat) : ∃ k, k ≤ 9 ∧ pow2 n = 2 ^ k := by
  unfold pow2
  split
  · exact ⟨0, by omega, rfl⟩
  split
  · exact ⟨1, by omega, rfl⟩
  split
  · exact ⟨2, by omega, rfl⟩
  split
  · exact ⟨3, by omega, rfl⟩
  split
  · exact ⟨4, by omega, rfl⟩
  split
  · exact ⟨5, by omega, rfl⟩
  split
  · exact ⟨6, by omega, rfl⟩
  split
  · exact ⟨7, by omega, rfl⟩
  split
  · exact ⟨8, by omega, rfl⟩
  · exact ⟨9, by omega, rfl⟩
theorem jointN_le {x : Ci} (h : x.Good) : x.jointN ≤ 512 := by
  have := h.calls
  unfold Ci.jointN
  split
  · omega
  · split
    · omega
    · split <;> omega
theorem info_elemP : (Tryz.prog.info? 28).map (fun i => (i.zero, i.size, i.bytes)) = some (some (.agg #[.int .u64 0, .int .u64 0]), 2, 16) := by kernel_rfl
/-- An append to a row that is full: new memory alone. -/
theorem wp_append_fullM {ops : Array Oper} {E : Prop} {o : Oper} {a : Act} {w : World} {K : Act → World → Prop} {Q : Exit → Act → World → Prop} (hgd : o.guard = none) (s x : Operand)
    (ho : o.op = .call { callee := .builtin .append, args := #[s, x], argTypes := #[25, 25] }) (g n p m : Nat) (xs zs : List Int) (hs : a.eval s = .slice (some ⟨g, 0, none⟩) n n) (hg : Row w g xs) (hl : xs.length = n) (hn : n ≤ 65536)
    (hx : a.eval x = .slice (some ⟨p, 0, none⟩) m m) (hp : Row w p zs) (hz : zs.length = m) (hm : 1 ≤ m) (hm2 : m ≤ 100) (h : ∀ w' A c', Below w.heap.size w w' → K (a.put o.dst (.slice A (n + m) c')) w') :
    if Region.wanted o (yielded ops a.tmps) = true then Oper.wp Tryz.prog o a w K Q else E := by
  have hw : Region.wanted o (yielded ops a.tmps) = true := by simp [Region.wanted, hgd]
  rw [if_pos hw]
  obtain ⟨i0, hinf, hz0, hz1, hz2⟩ := info_parts info_elemP
  have hr := run_append_grow (P := Tryz.prog) (w := w) 25 o.type 28 i0 _ Tryz.underlying25 hinf hz0 ⟨g, 0, none⟩ n n (ecells xs) (by rw [hz1, ecells_length, hl]) (row_news hg) ⟨p, 0, none⟩ m m (ecells zs) (by rw [hz1, ecells_length, hz]) (row_news hp) (by omega) (by omega) (growslice_fits (by omega) (by rw [hz2]; omega))
  unfold Oper.wp execOp
  simp only [ho, resolve, invoke, builtin, Sem.run_bind, Sem.run_pure, Result.andThen_ok, List.map_toArray, List.map_cons, List.map_nil, hs, hx, hr]
  exact h _ _ _ ((Below.refl _ _).drew.alloc (Nat.le_refl _) _)
theorem zeros_len (n : Nat) : (lst (fun _ => (0 : Int)) n).length = n := lst_length _ _
theorem zeros_ok (n : Nat) : ElemsOK (lst (fun _ => (0 : Int)) n) := (show Lim (fun _ => (0 : Int)) n from fun p _ => ⟨Int.le_refl _, show (0 : Int) < 340282366920938463463374607431768211456 by decide⟩).ok
/-- The small circuit, lists of noughts. -/
structure Pe (w0 : World) (y : Ci) (qy : Nat) (w : World) : Prop where
  b : Below w0.heap.size w0 w
  ky : w.heap[qy]? = some (cobj y)
theorem Pe.up {w0 : World} {y : Ci} {qy : Nat} {w w' : World} (h : Pe w0 y qy w) (hv : Below w.heap.size w w') : Pe w0 y qy w' := ⟨below_next h.b h.b.size hv, keeps hv h.ky⟩
set_option maxRecDepth 20000 in
set_option maxHeartbeats 16000000 in
theorem proofErrors_walk (x : Ci) (k0 : 0 ≤ x.k) (k1 : x.k ≤ 255) (f0 : 0 ≤ x.f) (f1 : x.f ≤ 255) (K F B L W C : Int) (K0 : 0 ≤ K) (K1 : K ≤ 255) (F0 : 0 ≤ F) (F1 : F ≤ 255) (B0 : 0 ≤ B) (B1 : B ≤ 255) (L0 : 0 ≤ L) (L1 : L ≤ 255) (W0 : 0 ≤ W) (W1 : W ≤ 255) (C0 : 0 ≤ C) (C1 : C ≤ 255)
    (e : Int) (m : Int) (m0 : 0 ≤ m) (m1 : m ≤ 255) (w : World) (hT : Tabs w) :
    Calls Tryz.prog 9 #[cvl x, svl K F B L W C, .agg #[.int .u64 (lo e), .int .u64 (hi e)], .int .u8 m] w fun e w' => e = .returned (.bool true) ∧ Below w.heap.size w w' := by
  have hAw := Lib.hid (fun w hT => awake11_ok w hT)
  have hRf := Lib.hid (fun w => ref_any x k0 k1 f0 f1 w)
  have hRc := Lib.hid (fun w => rcheck_any x.k x.f x.b x.l x.w x.c w)
  have hcode : (Ci.mk x.k x.f x.b x.l x.w x.c).code = x.code := rfl
  rw [hcode] at hRc
  have hP := Lib.hid (fun h A B C w => prove_bad x h A B C w)
  have hQ := Lib.hid (fun h A B C y sh w => query_bad x h A B C y sh w)
  have hD := Lib.hid (fun h A w => decide_bad x h A w)
  have hDi := Lib.hid (fun h w => direct_bad x h none none 0 0 0 0 w)
  have hSm := Lib.hid (fun w => small_any K F B L W C K0 K1 F0 F1 B0 B1 L0 L1 W0 W1 C0 C1 w)
  obtain ⟨y, hy, hSm2⟩ : ∃ y : Ci, y.Good ∧ Hid (∀ w, Calls Tryz.prog 11 #[svl K F B L W C] w fun e w' => e = .returned (cvl y) ∧ Below w.heap.size w w') := ⟨_, small_good K F B L W C, hSm⟩
  obtain ⟨E, hE⟩ : ∃ E, x.code = E := ⟨_, rfl⟩
  rw [hE] at hRc hP hQ hD hDi
  replace hT := Lib.hid hT
  unfold cvl svl rvl at *
  clear hSm hcode k0 k1 f0 f1 hE
  go_enter Tryz.func9, Tryz.ntmps9
  go_upto_region 1 with (fail)
  refine name_wp (fun w1 => Below w.heap.size w w1 ∧ w1.heap[w.heap.size]? = some (cobj x) ∧ w1.heap[w.heap.size + 1]? = some (.cells #[.int .u8 K, .int .u8 F, .int .u8 B, .int .u8 L, .int .u8 W, .int .u8 C] 23 (0, 0)) ∧ Holds w1 (w.heap.size + 1 + 1) e) ⟨(((Below.refl _ _).alloc (Nat.le_refl _) _).alloc (by simp) _).alloc (by simp; omega) _, alloc_keeps (alloc_keeps (alloc_at rfl)), alloc_keeps (alloc_at (by simp)), alloc_at (by simp)⟩ ?_
  rintro w1 ⟨hb, kc, ks, ke⟩
  obtain ⟨q6, hq6⟩ : ∃ q6, w.heap.size + 1 + 1 = q6 := ⟨_, rfl⟩
  obtain ⟨q5, hq5⟩ : ∃ q5, w.heap.size + 1 = q5 := ⟨_, rfl⟩
  rw [hq6] at ke ⊢
  rw [hq5] at ks ⊢
  clear hq5 hq6
  go_wp2_with fail
  refine call_then (hAw.out _ (hT.out.up hb)) ?_
  clear hAw
  intro w2 hv
  replace hb := below_next hb hb.size hv
  replace kc := keeps hv kc
  replace ks := keeps hv ks
  replace ke := ke.up hv
  clear hv
  obtain ⟨c0, c1, c2, c3, c4, c5⟩ := blk6z kc
  go_wp2_with fail
  refine call_then (hRf.out _) ?_
  clear hRf
  intro w3 hv
  replace hb := below_next hb hb.size hv
  replace kc := keeps hv kc
  replace ks := keeps hv ks
  replace ke := ke.up hv
  clear hv c0 c1 c2 c3 c4 c5
  go_wp2_with fail
  refine call_then (hRc.out _) ?_
  clear hRc
  intro w4 hv
  replace hb := below_next hb hb.size hv
  replace kc := keeps hv kc
  replace ks := keeps hv ks
  replace ke := ke.up hv
  clear hv
  go_upto_if 40 with (fail)
  go_cut [] (fun w' => Below w.heap.size w w' ∧ w'.heap[q5]? = some (.cells #[.int .u8 K, .int .u8 F, .int .u8 B, .int .u8 L, .int .u8 W, .int .u8 C] 23 (0, 0)))
  case first =>
    by_cases hz : E = 0
    · subst hz
      go_wp2
      go_meet
      exact ⟨hb, ks⟩
    · have hz1 : (E != 0) = true := by simpa using hz
      obtain ⟨c0, c1, c2, c3, c4, c5⟩ := blk6z kc
      go_wp2_with fail
      refine call_then (hP.out hz _ _ _ _) ?_
      intro w5 hv
      replace hb := below_next hb hb.size hv
      replace kc := keeps hv kc
      replace ks := keeps hv ks
      replace ke := ke.up hv
      clear hv
      try clear c0 c1 c2 c3 c4 c5
      try clear d0 d1
      obtain ⟨c0, c1, c2, c3, c4, c5⟩ := blk6z kc
      obtain ⟨d0, d1, -, -⟩ := blk2 ke
      go_wp2_with fail
      refine call_then (hQ.out hz _ _ _ _ _ _) ?_
      intro w6 hv
      replace hb := below_next hb hb.size hv
      replace kc := keeps hv kc
      replace ks := keeps hv ks
      replace ke := ke.up hv
      clear hv
      try clear c0 c1 c2 c3 c4 c5
      try clear d0 d1
      obtain ⟨c0, c1, c2, c3, c4, c5⟩ := blk6z kc
      obtain ⟨d0, d1, -, -⟩ := blk2 ke
      go_wp2_with fail
      refine call_then (hD.out hz _ _) ?_
      intro w7 hv
      replace hb := below_next hb hb.size hv
      replace kc := keeps hv kc
      replace ks := keeps hv ks
      replace ke := ke.up hv
      clear hv
      try clear c0 c1 c2 c3 c4 c5
      try clear d0 d1
      obtain ⟨c0, c1, c2, c3, c4, c5⟩ := blk6z kc
      obtain ⟨d0, d1, -, -⟩ := blk2 ke
      go_wp2_with fail
      refine call_then (hDi.out hz _) ?_
      intro w8 hv
      replace hb := below_next hb hb.size hv
      replace kc := keeps hv kc
      replace ks := keeps hv ks
      replace ke := ke.up hv
      clear hv
      try clear c0 c1 c2 c3 c4 c5
      try clear d0 d1
      obtain ⟨c0, c1, c2, c3, c4, c5⟩ := blk6z kc
      obtain ⟨d0, d1, -, -⟩ := blk2 ke
      clear hP hQ hD hDi
      have hee : (E != E) = false := by simp
      go_upto_region 9 with (fail)
      refine name_wp (fun w9 => Below w.heap.size w w9 ∧ w9.heap[q5]? = some (.cells #[.int .u8 K, .int .u8 F, .int .u8 B, .int .u8 L, .int .u8 W, .int .u8 C] 23 (0, 0))) ⟨hb.alloc hb.size _, alloc_keeps ks⟩ ?_
      clear hb ks kc ke c0 c1 c2 c3 c4 c5 d0 d1
      rintro w9 ⟨hb, ks⟩
      go_wp2
      go_meet
      exact ⟨hb, ks⟩
  case rest =>
    clear hb kc ks ke hP hQ hD hDi
    obtain ⟨hb, ks⟩ := hcut
    obtain ⟨s0, s1, s2, s3, s4, s5⟩ := blk6 ks
    go_wp2_with fail
    refine call_then (hSm2.out _) ?_
    clear hSm2
    intro w5 hv
    replace hb := below_next hb hb.size hv
    clear hv s0 s1 s2 s3 s4 s5 ks
    go_upto_region 12 with (fail)
    refine name_wp (fun w1 => Pe w y w5.heap.size w1) ⟨hb.alloc hb.size _, alloc_at rfl⟩ ?_
    clear hb
    intro w6 he
    obtain ⟨qy, hqy⟩ : ∃ qy, w5.heap.size = qy := ⟨_, rfl⟩
    rw [hqy] at he ⊢
    clear hqy
    have hle := arityN_le hy
    have hIb := hy.fits.in_le
    have hJb := jointN_le hy
    obtain ⟨kk, hkk, hkD⟩ := pow2_is (y.callsN + 1)
    have hDb : pow2 (y.callsN + 1) ≤ 1024 := by
      rw [hkD]
      exact Nat.le_trans (Nat.pow_le_pow_right (by decide) hkk) (by decide)
    have hD1 : 1 ≤ pow2 (y.callsN + 1) := by
      rw [hkD]
      exact Nat.one_le_two_pow
    have hPb : y.proofN ≤ 4096 := by
      unfold Ci.proofN
      omega
    have hIn := Lib.hid (fun w => inup_any y hy w)
    have hJo := Lib.hid (fun w => joint_any y hy w)
    have hGa := Lib.hid (fun w => gadget_any y hy w)
    have hAr := Lib.hid (fun v (w : World) (hv : GadIs y v w) => garity_any y hy hv)
    have hPr := Lib.hid (fun w => proof_any y hy w)
    have hVe := Lib.hid (fun w => verifier_any y hy w)
    have hOu := Lib.hid (fun w hT => outside_any y hy kk _ (by omega) hkD rfl 5 (by decide) (by decide) w hT)
    have hPs := Lib.hid (fun A C Bs n cs hn w => prove_seeds y hy A C Bs n cs hn w)
    have hPv := Lib.hid (fun sd Ax Bs Bj N cp n cs J cj hn hsl hs hN w hS => prove_vector y hy (by omega) _ rfl hDb hD1 sd Ax Bs Bj N cp n cs J cj hn hsl hs hN w hS)
    have hQs := Lib.hid (fun A C B n c hn z sh w => query_size y hy A C B n c hn z sh w)
    have hDs := Lib.hid (fun B n c hn w => decide_size y hy B n c hn w)
    unfold GadOut OutsOut cvl at *
    clear hkk hkD hDb hD1 hy
    obtain ⟨I, hI⟩ : ∃ I, y.inN = I := ⟨_, rfl⟩
    obtain ⟨J, hJ⟩ : ∃ J, y.jointN = J := ⟨_, rfl⟩
    obtain ⟨n, hn⟩ : ∃ n, y.arityN = n := ⟨_, rfl⟩
    obtain ⟨P, hP⟩ : ∃ P, y.proofN = P := ⟨_, rfl⟩
    rw [hI] at hIn hIb hPv
    rw [hJ] at hJo hJb
    rw [hn] at hAr hVe hPs hPv hDs hle
    rw [hP] at hPr hQs hPb
    clear hI hJ hP
    have hmI := make_elems I (by omega)
    have hmJ := make_elems J (by omega)
    have hmn := make_elems n (by omega)
    have hmP := make_elems P (by omega)
    replace hT := hT.out
    replace hT := Lib.hid (fun (w' : World) (h : Below w.heap.size w w') => hT.up h)
    go_cut [19, 20] (fun a b w' => ∃ g1 g2, a = .slice (some ⟨g1, 0, none⟩) I I ∧ b = .slice (some ⟨g2, 0, none⟩) J J ∧ Pe w y qy w' ∧ Row w' g1 (lst (fun _ => 0) I) ∧ Row w' g2 (lst (fun _ => 0) J))
    case first =>
      refine segS_start (gb := fun _ => True) 8 (by kernel_rfl) (by decide) ?_
      intro v0 hv
      replace he := he.up hv
      clear hv
      refine segS_batch 4 [0, 1, 3, 4] (by kernel_rfl) rfl (by kernel_rfl) (by kernel_rfl) (by kernel_rfl) ?_
      apply Exists.intro
      refine ⟨fun ι _ φ hφ => ?_, fun v1 hv => ?_⟩
      · have qd := fun i => blk6z ((hφ.old i).keeps he.ky trivial)
        have q0 := fun i => (qd i).1
        have q1 := fun i => (qd i).2.1
        have q2 := fun i => (qd i).2.2.1
        have q3 := fun i => (qd i).2.2.2.1
        have q4 := fun i => (qd i).2.2.2.2.1
        have q5 := fun i => (qd i).2.2.2.2.2
        clear qd
        repeat (refine pick_step rfl ?_; go_big_quiet_step ((first | (go_at_call 47; exact flowS_call hφ (hIn.out _)) | (go_at_call 41; exact flowS_call hφ (hJo.out _)))))
        exact pick_end
      replace he := he.up hv
      clear hv
      refine segS_more [2, 5] (by kernel_rfl) (by decide) ?_
      intro z hz
      simp only [List.mem_cons, List.not_mem_nil, or_false] at hz
      rcases hz with rfl | rfl
      · refine ⟨by decide, _, rfl, fun v2 K hv hK => ?_⟩
        replace he := he.up hv
        clear hv
        replace hK := Lib.hid hK
        go_simp
        refine hK.out _ _ (HeldS.of_below ((Below.refl _ _).alloc (Nat.le_refl _) _)) ?_
        clear hK K
        have hv : Below v2.heap.size v2 (v2.alloc (.cells (ecells (List.replicate I 0)).toArray 28)) := (Below.refl _ _).alloc (Nat.le_refl _) _
        have r1 := zero_rowP v2 I
        replace he := he.up hv
        clear hv
        generalize v2.alloc (.cells (ecells (List.replicate I 0)).toArray 28) = v2' at *
        generalize v2.heap.size = g1 at *
        refine segS_batch 2 [6] (by kernel_rfl) rfl (by kernel_rfl) (by kernel_rfl) (by kernel_rfl) ?_
        apply Exists.intro
        refine ⟨fun ι _ φ hφ => ?_, fun v3 hv => ?_⟩
        · repeat (refine pick_step rfl ?_; go_big_quiet_step (fail))
          exact pick_end
        replace he := he.up hv
        replace r1 := r1.up hv
        clear hv
        refine segS_more [5] (by kernel_rfl) (by decide) ?_
        intro z hz
        obtain rfl := List.mem_singleton.1 hz
        refine ⟨by decide, _, rfl, fun v4 K hv hK => ?_⟩
        replace he := he.up hv
        replace r1 := r1.up hv
        clear hv
        replace hK := Lib.hid hK
        go_simp
        refine hK.out _ _ (HeldS.of_below ((Below.refl _ _).alloc (Nat.le_refl _) _)) ?_
        clear hK K
        have hv : Below v4.heap.size v4 (v4.alloc (.cells (ecells (List.replicate J 0)).toArray 28)) := (Below.refl _ _).alloc (Nat.le_refl _) _
        have r2 := zero_rowP v4 J
        replace he := he.up hv
        replace r1 := r1.up hv
        clear hv
        generalize v4.alloc (.cells (ecells (List.replicate J 0)).toArray 28) = v4' at *
        generalize v4.heap.size = g2 at *
        refine segS_batch 0 [7] (by kernel_rfl) rfl (by kernel_rfl) (by kernel_rfl) (by kernel_rfl) ?_
        apply Exists.intro
        refine ⟨fun ι _ φ hφ => ?_, fun v5 hv => ?_⟩
        · repeat (refine pick_step rfl ?_; go_big_quiet_step (fail))
          exact pick_end
        replace he := he.up hv
        replace r1 := r1.up hv
        replace r2 := r2.up hv
        clear hv
        refine segS_done rfl (by kernel_rfl) ?_
        intro v6 hv
        replace he := he.up hv
        replace r1 := r1.up hv
        replace r2 := r2.up hv
        clear hv
        go_wp2
        go_meet
        exact ⟨g1, g2, rfl, rfl, he, r1, r2⟩
      · refine ⟨by decide, _, rfl, fun v2 K hv hK => ?_⟩
        replace he := he.up hv
        clear hv
        replace hK := Lib.hid hK
        go_simp
        refine hK.out _ _ (HeldS.of_below ((Below.refl _ _).alloc (Nat.le_refl _) _)) ?_
        clear hK K
        have hv : Below v2.heap.size v2 (v2.alloc (.cells (ecells (List.replicate J 0)).toArray 28)) := (Below.refl _ _).alloc (Nat.le_refl _) _
        have r2 := zero_rowP v2 J
        replace he := he.up hv
        clear hv
        generalize v2.alloc (.cells (ecells (List.replicate J 0)).toArray 28) = v2' at *
        generalize v2.heap.size = g2 at *
        refine segS_more [2] (by kernel_rfl) (by decide) ?_
        intro z hz
        obtain rfl := List.mem_singleton.1 hz
        refine ⟨by decide, _, rfl, fun v3 K hv hK => ?_⟩
        replace he := he.up hv
        replace r2 := r2.up hv
        clear hv
        replace hK := Lib.hid hK
        go_simp
        refine hK.out _ _ (HeldS.of_below ((Below.refl _ _).alloc (Nat.le_refl _) _)) ?_
        clear hK K
        have hv : Below v3.heap.size v3 (v3.alloc (.cells (ecells (List.replicate I 0)).toArray 28)) := (Below.refl _ _).alloc (Nat.le_refl _) _
        have r1 := zero_rowP v3 I
        replace he := he.up hv
        replace r2 := r2.up hv
        clear hv
        generalize v3.alloc (.cells (ecells (List.replicate I 0)).toArray 28) = v3' at *
        generalize v3.heap.size = g1 at *
        refine segS_batch 0 [6, 7] (by kernel_rfl) rfl (by kernel_rfl) (by kernel_rfl) (by kernel_rfl) ?_
        apply Exists.intro
        refine ⟨fun ι _ φ hφ => ?_, fun v5 hv => ?_⟩
        · repeat (refine pick_step rfl ?_; go_big_quiet_step (fail))
          exact pick_end
        replace he := he.up hv
        replace r1 := r1.up hv
        replace r2 := r2.up hv
        clear hv
        refine segS_done rfl (by kernel_rfl) ?_
        intro v6 hv
        replace he := he.up hv
        replace r1 := r1.up hv
        replace r2 := r2.up hv
        clear hv
        go_wp2
        go_meet
        exact ⟨g1, g2, rfl, rfl, he, r1, r2⟩
    clear hIn hJo hmI hmJ he
    obtain ⟨g1, g2, rfl, rfl, he, r1, r2⟩ := hcut
    go_upto_region 13 with (fail)
    go_cut [21, 22] (fun a b w' => ∃ g3 g4, a = .slice (some ⟨g3, 0, none⟩) n n ∧ b = .slice (some ⟨g4, 0, none⟩) P P ∧ Pe w y qy w' ∧ Row w' g1 (lst (fun _ => 0) I) ∧ Row w' g2 (lst (fun _ => 0) J) ∧ Row w' g3 (lst (fun _ => 0) n) ∧ Row w' g4 (lst (fun _ => 0) P))
    case first =>
      refine segS_start (gb := fun _ => True) 9 (by kernel_rfl) (by decide) ?_
      intro v0 hv
      replace he := he.up hv
      replace r1 := r1.up hv
      replace r2 := r2.up hv
      clear hv
      refine segS_batch 7 [0, 4] (by kernel_rfl) rfl (by kernel_rfl) (by kernel_rfl) (by kernel_rfl) ?_
      apply Exists.intro
      refine ⟨fun ι _ φ hφ => ?_, fun v1 hv => ?_⟩
      · have qd := fun i => blk6z ((hφ.old i).keeps he.ky trivial)
        have q0 := fun i => (qd i).1
        have q1 := fun i => (qd i).2.1
        have q2 := fun i => (qd i).2.2.1
        have q3 := fun i => (qd i).2.2.2.1
        have q4 := fun i => (qd i).2.2.2.2.1
        have q5 := fun i => (qd i).2.2.2.2.2
        clear qd
        repeat (refine pick_step rfl ?_; go_big_quiet_step (fail))
        exact pick_end
      replace he := he.up hv
      replace r1 := r1.up hv
      replace r2 := r2.up hv
      clear hv
      refine segS_more [1] (by kernel_rfl) (by decide) ?_
      intro z hz
      obtain rfl := List.mem_singleton.1 hz
      refine ⟨by decide, _, rfl, fun v2 K hv hK => ?_⟩
      replace he := he.up hv
      replace r1 := r1.up hv
      replace r2 := r2.up hv
      clear hv
      replace hK := Lib.hid hK
      go_simp
      refine (hGa.out v2).mono ?_
      rintro e v2' ⟨ga, gA, gn, gc, gm, rfl, hv, hgd⟩
      refine hK.out _ _ (HeldS.of_below hv) ?_
      clear hK K
      replace he := he.up hv
      replace r1 := r1.up hv
      replace r2 := r2.up hv
      clear hv
      refine segS_batch 5 [2] (by kernel_rfl) rfl (by kernel_rfl) (by kernel_rfl) (by kernel_rfl) ?_
      apply Exists.intro
      refine ⟨fun ι _ φ hφ => ?_, fun v3 hv => ?_⟩
      · have hq : ∀ i, GadIs y (.agg #[.int .u8 ga, .slice gA gn gc, .int .i64 gm]) (φ i) := fun i => hgd.same (fun b o e => (hφ.old i).block b (lt_of_get (hgd.row e)) trivial)
        repeat (refine pick_step rfl ?_; go_big_quiet_step ((go_at_call 16; exact flowS_call hφ (hAr.out _ _ (hq _)))))
        exact pick_end
      replace he := he.up hv
      replace r1 := r1.up hv
      replace r2 := r2.up hv
      clear hv
      clear hgd
      refine segS_batch 4 [5] (by kernel_rfl) rfl (by kernel_rfl) (by kernel_rfl) (by kernel_rfl) ?_
      apply Exists.intro
      refine ⟨fun ι _ φ hφ => ?_, fun v4 hv => ?_⟩
      · repeat (refine pick_step rfl ?_; go_big_quiet_step ((go_at_call 19; exact flowS_call hφ (hPr.out _))))
        exact pick_end
      replace he := he.up hv
      replace r1 := r1.up hv
      replace r2 := r2.up hv
      clear hv
      refine segS_more [3, 6] (by kernel_rfl) (by decide) ?_
      intro z hz
      simp only [List.mem_cons, List.not_mem_nil, or_false] at hz
      rcases hz with rfl | rfl
      · refine ⟨by decide, _, rfl, fun v5 K hv hK => ?_⟩
        replace he := he.up hv
        replace r1 := r1.up hv
        replace r2 := r2.up hv
        clear hv
        replace hK := Lib.hid hK
        go_simp
        refine hK.out _ _ (HeldS.of_below ((Below.refl _ _).alloc (Nat.le_refl _) _)) ?_
        clear hK K
        have hv : Below v5.heap.size v5 (v5.alloc (.cells (ecells (List.replicate n 0)).toArray 28)) := (Below.refl _ _).alloc (Nat.le_refl _) _
        have r3 := zero_rowP v5 n
        replace he := he.up hv
        replace r1 := r1.up hv
        replace r2 := r2.up hv
        clear hv
        generalize v5.alloc (.cells (ecells (List.replicate n 0)).toArray 28) = v5' at *
        generalize v5.heap.size = g3 at *
        refine segS_batch 2 [7] (by kernel_rfl) rfl (by kernel_rfl) (by kernel_rfl) (by kernel_rfl) ?_
        apply Exists.intro
        refine ⟨fun ι _ φ hφ => ?_, fun v6 hv => ?_⟩
        · repeat (refine pick_step rfl ?_; go_big_quiet_step (fail))
          exact pick_end
        replace he := he.up hv
        replace r1 := r1.up hv
        replace r2 := r2.up hv
        replace r3 := r3.up hv
        clear hv
        refine segS_more [6] (by kernel_rfl) (by decide) ?_
        intro z hz
        obtain rfl := List.mem_singleton.1 hz
        refine ⟨by decide, _, rfl, fun v7 K hv hK => ?_⟩
        replace he := he.up hv
        replace r1 := r1.up hv
        replace r2 := r2.up hv
        replace r3 := r3.up hv
        clear hv
        replace hK := Lib.hid hK
        go_simp
        refine hK.out _ _ (HeldS.of_below ((Below.refl _ _).alloc (Nat.le_refl _) _)) ?_
        clear hK K
        have hv : Below v7.heap.size v7 (v7.alloc (.cells (ecells (List.replicate P 0)).toArray 28)) := (Below.refl _ _).alloc (Nat.le_refl _) _
        have r4 := zero_rowP v7 P
        replace he := he.up hv
        replace r1 := r1.up hv
        replace r2 := r2.up hv
        replace r3 := r3.up hv
        clear hv
        generalize v7.alloc (.cells (ecells (List.replicate P 0)).toArray 28) = v7' at *
        generalize v7.heap.size = g4 at *
        refine segS_batch 0 [8] (by kernel_rfl) rfl (by kernel_rfl) (by kernel_rfl) (by kernel_rfl) ?_
        apply Exists.intro
        refine ⟨fun ι _ φ hφ => ?_, fun v8 hv => ?_⟩
        · repeat (refine pick_step rfl ?_; go_big_quiet_step (fail))
          exact pick_end
        replace he := he.up hv
        replace r1 := r1.up hv
        replace r2 := r2.up hv
        replace r3 := r3.up hv
        replace r4 := r4.up hv
        clear hv
        refine segS_done rfl (by kernel_rfl) ?_
        intro v9 hv
        replace he := he.up hv
        replace r1 := r1.up hv
        replace r2 := r2.up hv
        replace r3 := r3.up hv
        replace r4 := r4.up hv
        clear hv
        go_wp2
        go_meet
        exact ⟨g3, g4, rfl, rfl, he, r1, r2, r3, r4⟩
      · refine ⟨by decide, _, rfl, fun v5 K hv hK => ?_⟩
        replace he := he.up hv
        replace r1 := r1.up hv
        replace r2 := r2.up hv
        clear hv
        replace hK := Lib.hid hK
        go_simp
        refine hK.out _ _ (HeldS.of_below ((Below.refl _ _).alloc (Nat.le_refl _) _)) ?_
        clear hK K
        have hv : Below v5.heap.size v5 (v5.alloc (.cells (ecells (List.replicate P 0)).toArray 28)) := (Below.refl _ _).alloc (Nat.le_refl _) _
        have r4 := zero_rowP v5 P
        replace he := he.up hv
        replace r1 := r1.up hv
        replace r2 := r2.up hv
        clear hv
        generalize v5.alloc (.cells (ecells (List.replicate P 0)).toArray 28) = v5' at *
        generalize v5.heap.size = g4 at *
        refine segS_more [3] (by kernel_rfl) (by decide) ?_
        intro z hz
        obtain rfl := List.mem_singleton.1 hz
        refine ⟨by decide, _, rfl, fun v6 K hv hK => ?_⟩
        replace he := he.up hv
        replace r1 := r1.up hv
        replace r2 := r2.up hv
        replace r4 := r4.up hv
        clear hv
        replace hK := Lib.hid hK
        go_simp
        refine hK.out _ _ (HeldS.of_below ((Below.refl _ _).alloc (Nat.le_refl _) _)) ?_
        clear hK K
        have hv : Below v6.heap.size v6 (v6.alloc (.cells (ecells (List.replicate n 0)).toArray 28)) := (Below.refl _ _).alloc (Nat.le_refl _) _
        have r3 := zero_rowP v6 n
        replace he := he.up hv
        replace r1 := r1.up hv
        replace r2 := r2.up hv
        replace r4 := r4.up hv
        clear hv
        generalize v6.alloc (.cells (ecells (List.replicate n 0)).toArray 28) = v6' at *
        generalize v6.heap.size = g3 at *
        refine segS_batch 0 [7, 8] (by kernel_rfl) rfl (by kernel_rfl) (by kernel_rfl) (by kernel_rfl) ?_
        apply Exists.intro
        refine ⟨fun ι _ φ hφ => ?_, fun v8 hv => ?_⟩
        · repeat (refine pick_step rfl ?_; go_big_quiet_step (fail))
          exact pick_end
        replace he := he.up hv
        replace r1 := r1.up hv
        replace r2 := r2.up hv
        replace r4 := r4.up hv
        replace r3 := r3.up hv
        clear hv
        refine segS_done rfl (by kernel_rfl) ?_
        intro v9 hv
        replace he := he.up hv
        replace r1 := r1.up hv
        replace r2 := r2.up hv
        replace r3 := r3.up hv
        replace r4 := r4.up hv
        clear hv
        go_wp2
        go_meet
        exact ⟨g3, g4, rfl, rfl, he, r1, r2, r3, r4⟩
    clear hGa hAr hPr hmn hmP he r1 r2
    obtain ⟨g3, g4, rfl, rfl, he, r1, r2, r3, r4⟩ := hcut
    have hsub : ∃ M : Nat, 1 + m % 4 = (M : Int) := ⟨(1 + m % 4).toNat, by omega⟩
    obtain ⟨M, hM⟩ := hsub
    have hM1 : 1 ≤ M := by omega
    have hM4 : M ≤ 4 := by omega
    have hmM := make_elems M (by omega)
    rw [← hM] at hmM
    replace hM := Lib.hid hM
    go_upto_region 15 with (fail)
    refine name_wp (fun w1 => Pe w y qy w1 ∧ Row w1 g1 (lst (fun _ => 0) I) ∧ Row w1 g2 (lst (fun _ => 0) J) ∧ Row w1 g3 (lst (fun _ => 0) n) ∧ Row w1 g4 (lst (fun _ => 0) P) ∧ Row w1 wc.heap.size (lst (fun _ => 0) M)) ?_ ?_
    · have hv : Below wc.heap.size wc (wc.alloc (.cells (ecells (List.replicate M 0)).toArray 28)) := (Below.refl _ _).alloc (Nat.le_refl _) _
      exact ⟨he.up hv, r1.up hv, r2.up hv, r3.up hv, r4.up hv, zero_rowP wc M⟩
    clear he r1 r2 r3 r4 hmM
    obtain ⟨g5, hg5⟩ : ∃ g5, wc.heap.size = g5 := ⟨_, rfl⟩
    rw [hg5]
    clear hg5
    rintro w7 ⟨he, r1, r2, r3, r4, r5⟩
    have qd := blk6z he.ky
    obtain ⟨c0, c1, c2, c3, c4, c5⟩ := qd
    have hOw : ∀ (w : World), Tabs w → Calls Tryz.prog 21 #[.agg #[.int .u8 y.k, .int .u8 y.f, .int .i64 y.b, .int .i64 y.l, .int .i64 y.w, .int .i64 y.c], .agg #[.int .u64 5, .int .u64 0]] w fun e w' => ∃ z b, e = .returned (.tuple #[.agg #[.int .u64 (lo z), .int .u64 (hi z)], .bool b]) ∧ Below w.heap.size w w' := fun w h => (hOu.out w h).mono (by
      rintro e w' (⟨_, he, hb⟩ | ⟨_, he, hb⟩)
      · exact ⟨_, _, he, hb⟩
      · exact ⟨_, _, he, hb⟩)
    clear hOu
    replace hOw := Lib.hid hOw
    go_wp2_with fail
    refine (hOw.out _ (hT.out _ he.b)).mono ?_
    clear hOw hT
    rintro e' w8 ⟨z, b, rfl, hv⟩
    clear c0 c1 c2 c3 c4 c5
    replace he := he.up hv
    replace r1 := r1.up hv
    replace r2 := r2.up hv
    replace r3 := r3.up hv
    replace r4 := r4.up hv
    replace r5 := r5.up hv
    clear hv
    go_upto_region 16 with (fail)
    refine name_wp (fun w1 => Pe w y qy w1 ∧ Row w1 g1 (lst (fun _ => 0) I) ∧ Row w1 g2 (lst (fun _ => 0) J) ∧ Row w1 g3 (lst (fun _ => 0) n) ∧ Row w1 g4 (lst (fun _ => 0) P) ∧ Row w1 g5 (lst (fun _ => 0) M) ∧ Holds w1 w8.heap.size z) ?_ ?_
    · have hv : Below w8.heap.size w8 (w8.alloc (.cells #[.int .u64 (lo z), .int .u64 (hi z)] 28)) := (Below.refl _ _).alloc (Nat.le_refl _) _
      exact ⟨he.up hv, r1.up hv, r2.up hv, r3.up hv, r4.up hv, r5.up hv, alloc_at rfl⟩
    clear he r1 r2 r3 r4 r5
    obtain ⟨g6, hg6⟩ : ∃ g6, w8.heap.size = g6 := ⟨_, rfl⟩
    rw [hg6]
    clear hg6
    rintro w9 ⟨he, r1, r2, r3, r4, r5, kz⟩
    go_cut [27] (fun a w' => a = .int .i64 9 ∧ Pe w y qy w' ∧ Row w' g1 (lst (fun _ => 0) I) ∧ Row w' g2 (lst (fun _ => 0) J) ∧ Row w' g3 (lst (fun _ => 0) n) ∧ Row w' g4 (lst (fun _ => 0) P) ∧ Row w' g5 (lst (fun _ => 0) M) ∧ Holds w' g6 z)
    case first =>
      refine segS_start (gb := fun _ => True) 12 (by kernel_rfl) (by decide) ?_
      intro v0 hv
      replace he := he.up hv
      replace r1 := r1.up hv
      replace r2 := r2.up hv
      replace r3 := r3.up hv
      replace r4 := r4.up hv
      replace r5 := r5.up hv
      replace kz := kz.up hv
      clear hv
      refine segS_batch 7 [0, 1, 2, 3, 5] (by kernel_rfl) rfl (by kernel_rfl) (by kernel_rfl) (by kernel_rfl) ?_
      apply Exists.intro
      refine ⟨fun ι _ φ hφ => ?_, fun v1 hv => ?_⟩
      · have qd := fun i => blk6z ((hφ.old i).keeps he.ky trivial)
        have q0 := fun i => (qd i).1
        have q1 := fun i => (qd i).2.1
        have q2 := fun i => (qd i).2.2.1
        have q3 := fun i => (qd i).2.2.2.1
        have q4 := fun i => (qd i).2.2.2.2.1
        have q5 := fun i => (qd i).2.2.2.2.2
        clear qd
        repeat (refine pick_step rfl ?_; go_big_quiet_step (fail))
        exact pick_end
      replace he := he.up hv
      replace r1 := r1.up hv
      replace r2 := r2.up hv
      replace r3 := r3.up hv
      replace r4 := r4.up hv
      replace r5 := r5.up hv
      replace kz := kz.up hv
      clear hv
      refine segS_more [4] (by kernel_rfl) (by decide) ?_
      intro z hz
      obtain rfl := List.mem_singleton.1 hz
      refine ⟨by decide, _, rfl, fun v2 K hv hK => ?_⟩
      replace he := he.up hv
      replace r1 := r1.up hv
      replace r2 := r2.up hv
      replace r3 := r3.up hv
      replace r4 := r4.up hv
      replace r5 := r5.up hv
      replace kz := kz.up hv
      clear hv
      refine wp_append_fullM rfl _ _ rfl g3 n g5 M _ _ rfl r3 (zeros_len _) (by omega) rfl r5 (zeros_len _) (by omega) (by omega) ?_
      intro v3 A c' hv
      replace hK := Lib.hid hK
      go_simp
      refine hK.out _ _ (HeldS.of_below hv) ?_
      clear hK K
      replace he := he.up hv
      replace r1 := r1.up hv
      replace r2 := r2.up hv
      replace r3 := r3.up hv
      replace r4 := r4.up hv
      replace r5 := r5.up hv
      replace kz := kz.up hv
      clear hv
      refine segS_batch 0 [6, 7, 8, 9, 10, 11] (by kernel_rfl) rfl (by kernel_rfl) (by kernel_rfl) (by kernel_rfl) ?_
      apply Exists.intro
      refine ⟨fun ι _ φ hφ => ?_, fun v4 hv => ?_⟩
      · repeat (refine pick_step rfl ?_; go_big_quiet_step ((go_at_call 18; exact flowS_call hφ (hPs.out _ _ _ _ _ (by omega) _))))
        exact pick_end
      replace he := he.up hv
      replace r1 := r1.up hv
      replace r2 := r2.up hv
      replace r3 := r3.up hv
      replace r4 := r4.up hv
      replace r5 := r5.up hv
      replace kz := kz.up hv
      clear hv
      refine segS_done rfl (by kernel_rfl) ?_
      intro v5 hv
      replace he := he.up hv
      replace r1 := r1.up hv
      replace r2 := r2.up hv
      replace r3 := r3.up hv
      replace r4 := r4.up hv
      replace r5 := r5.up hv
      replace kz := kz.up hv
      clear hv
      go_wp2
      go_meet
      exact ⟨rfl, he, r1, r2, r3, r4, r5, kz⟩
    clear he r1 r2 r3 r4 r5 kz
    obtain ⟨rfl, he, r1, r2, r3, r4, r5, kz⟩ := hcut
    clear hPs
    go_upto_region 17 with (fail)
    go_cut [29] (fun a w' => a = .int .i64 9 ∧ Pe w y qy w' ∧ Row w' g1 (lst (fun _ => 0) I) ∧ Row w' g2 (lst (fun _ => 0) J) ∧ Row w' g3 (lst (fun _ => 0) n) ∧ Row w' g4 (lst (fun _ => 0) P) ∧ Row w' g5 (lst (fun _ => 0) M) ∧ Holds w' g6 z)
    case first =>
      refine segS_start (gb := fun _ => True) 12 (by kernel_rfl) (by decide) ?_
      intro v0 hv
      replace he := he.up hv
      replace r1 := r1.up hv
      replace r2 := r2.up hv
      replace r3 := r3.up hv
      replace r4 := r4.up hv
      replace r5 := r5.up hv
      replace kz := kz.up hv
      clear hv
      refine segS_batch 7 [0, 1, 2, 4, 5] (by kernel_rfl) rfl (by kernel_rfl) (by kernel_rfl) (by kernel_rfl) ?_
      apply Exists.intro
      refine ⟨fun ι _ φ hφ => ?_, fun v1 hv => ?_⟩
      · have qd := fun i => blk6z ((hφ.old i).keeps he.ky trivial)
        have q0 := fun i => (qd i).1
        have q1 := fun i => (qd i).2.1
        have q2 := fun i => (qd i).2.2.1
        have q3 := fun i => (qd i).2.2.2.1
        have q4 := fun i => (qd i).2.2.2.2.1
        have q5 := fun i => (qd i).2.2.2.2.2
        clear qd
        repeat (refine pick_step rfl ?_; go_big_quiet_step (fail))
        exact pick_end
      replace he := he.up hv
      replace r1 := r1.up hv
      replace r2 := r2.up hv
      replace r3 := r3.up hv
      replace r4 := r4.up hv
      replace r5 := r5.up hv
      replace kz := kz.up hv
      clear hv
      refine segS_more [3] (by kernel_rfl) (by decide) ?_
      intro z hz
      obtain rfl := List.mem_singleton.1 hz
      refine ⟨by decide, _, rfl, fun v2 K hv hK => ?_⟩
      replace he := he.up hv
      replace r1 := r1.up hv
      replace r2 := r2.up hv
      replace r3 := r3.up hv
      replace r4 := r4.up hv
      replace r5 := r5.up hv
      replace kz := kz.up hv
      clear hv
      refine wp_append_fullM rfl _ _ rfl g1 I g5 M _ _ rfl r1 (zeros_len _) (by omega) rfl r5 (zeros_len _) (by omega) (by omega) ?_
      intro v3 A c' hv
      replace hK := Lib.hid hK
      go_simp
      refine hK.out _ _ (HeldS.of_below hv) ?_
      clear hK K
      replace he := he.up hv
      replace r1 := r1.up hv
      replace r2 := r2.up hv
      replace r3 := r3.up hv
      replace r4 := r4.up hv
      replace r5 := r5.up hv
      replace kz := kz.up hv
      clear hv
      refine segS_batch 0 [6, 7, 8, 9, 10, 11] (by kernel_rfl) rfl (by kernel_rfl) (by kernel_rfl) (by kernel_rfl) ?_
      apply Exists.intro
      refine ⟨fun ι _ φ hφ => ?_, fun v4 hv => ?_⟩
      · have hq : ∀ i, Row (φ i) g3 (lst (fun _ => 0) n) := fun i => (hφ.old i).keeps r3 trivial
        repeat (refine pick_step rfl ?_; go_big_quiet_step ((go_at_call 18; exact flowS_call hφ (hPv.out (lst (fun _ => 0) n) _ _ _ _ _ n _ _ _ rfl (zeros_len n) (zeros_ok n) (by omega) _ (hq _).elems))))
        exact pick_end
      replace he := he.up hv
      replace r1 := r1.up hv
      replace r2 := r2.up hv
      replace r3 := r3.up hv
      replace r4 := r4.up hv
      replace r5 := r5.up hv
      replace kz := kz.up hv
      clear hv
      refine segS_done rfl (by kernel_rfl) ?_
      intro v5 hv
      replace he := he.up hv
      replace r1 := r1.up hv
      replace r2 := r2.up hv
      replace r3 := r3.up hv
      replace r4 := r4.up hv
      replace r5 := r5.up hv
      replace kz := kz.up hv
      clear hv
      go_wp2
      go_meet
      exact ⟨rfl, he, r1, r2, r3, r4, r5, kz⟩
    clear he r1 r2 r3 r4 r5 kz
    obtain ⟨rfl, he, r1, r2, r3, r4, r5, kz⟩ := hcut
    clear hPv
    go_upto_region 18 with (fail)
    go_cut [31] (fun a w' => a = .int .i64 9 ∧ Pe w y qy w' ∧ Row w' g1 (lst (fun _ => 0) I) ∧ Row w' g2 (lst (fun _ => 0) J) ∧ Row w' g3 (lst (fun _ => 0) n) ∧ Row w' g4 (lst (fun _ => 0) P) ∧ Row w' g5 (lst (fun _ => 0) M) ∧ Holds w' g6 z)
    case first =>
      refine segS_start (gb := fun _ => True) 13 (by kernel_rfl) (by decide) ?_
      intro v0 hv
      replace he := he.up hv
      replace r1 := r1.up hv
      replace r2 := r2.up hv
      replace r3 := r3.up hv
      replace r4 := r4.up hv
      replace r5 := r5.up hv
      replace kz := kz.up hv
      clear hv
      refine segS_batch 7 [0, 1, 2, 3, 5, 6] (by kernel_rfl) rfl (by kernel_rfl) (by kernel_rfl) (by kernel_rfl) ?_
      apply Exists.intro
      refine ⟨fun ι _ φ hφ => ?_, fun v1 hv => ?_⟩
      · have qd := fun i => blk6z ((hφ.old i).keeps he.ky trivial)
        have q0 := fun i => (qd i).1
        have q1 := fun i => (qd i).2.1
        have q2 := fun i => (qd i).2.2.1
        have q3 := fun i => (qd i).2.2.2.1
        have q4 := fun i => (qd i).2.2.2.2.1
        have q5 := fun i => (qd i).2.2.2.2.2
        clear qd
        have z0 := fun i => (blk2 ((hφ.old i).keeps kz trivial)).1
        have z1 := fun i => (blk2 ((hφ.old i).keeps kz trivial)).2.1
        repeat (refine pick_step rfl ?_; go_big_quiet_step (fail))
        exact pick_end
      replace he := he.up hv
      replace r1 := r1.up hv
      replace r2 := r2.up hv
      replace r3 := r3.up hv
      replace r4 := r4.up hv
      replace r5 := r5.up hv
      replace kz := kz.up hv
      clear hv
      refine segS_more [4] (by kernel_rfl) (by decide) ?_
      intro z hz
      obtain rfl := List.mem_singleton.1 hz
      refine ⟨by decide, _, rfl, fun v2 K hv hK => ?_⟩
      replace he := he.up hv
      replace r1 := r1.up hv
      replace r2 := r2.up hv
      replace r3 := r3.up hv
      replace r4 := r4.up hv
      replace r5 := r5.up hv
      replace kz := kz.up hv
      clear hv
      refine wp_append_fullM rfl _ _ rfl g4 P g5 M _ _ rfl r4 (zeros_len _) (by omega) rfl r5 (zeros_len _) (by omega) (by omega) ?_
      intro v3 A c' hv
      replace hK := Lib.hid hK
      go_simp
      refine hK.out _ _ (HeldS.of_below hv) ?_
      clear hK K
      replace he := he.up hv
      replace r1 := r1.up hv
      replace r2 := r2.up hv
      replace r3 := r3.up hv
      replace r4 := r4.up hv
      replace r5 := r5.up hv
      replace kz := kz.up hv
      clear hv
      refine segS_batch 0 [7, 8, 9, 10, 11, 12] (by kernel_rfl) rfl (by kernel_rfl) (by kernel_rfl) (by kernel_rfl) ?_
      apply Exists.intro
      refine ⟨fun ι _ φ hφ => ?_, fun v4 hv => ?_⟩
      · repeat (refine pick_step rfl ?_; go_big_quiet_step ((go_at_call 22; exact flowS_call hφ (hQs.out _ _ _ _ _ (by omega) _ _ _))))
        exact pick_end
      replace he := he.up hv
      replace r1 := r1.up hv
      replace r2 := r2.up hv
      replace r3 := r3.up hv
      replace r4 := r4.up hv
      replace r5 := r5.up hv
      replace kz := kz.up hv
      clear hv
      refine segS_done rfl (by kernel_rfl) ?_
      intro v5 hv
      replace he := he.up hv
      replace r1 := r1.up hv
      replace r2 := r2.up hv
      replace r3 := r3.up hv
      replace r4 := r4.up hv
      replace r5 := r5.up hv
      replace kz := kz.up hv
      clear hv
      go_wp2
      go_meet
      exact ⟨rfl, he, r1, r2, r3, r4, r5, kz⟩
    clear he r1 r2 r3 r4 r5 kz
    obtain ⟨rfl, he, r1, r2, r3, r4, r5, kz⟩ := hcut
    clear hQs r1 r2 r3 r4 kz
    obtain ⟨V, hV⟩ : ∃ V, n + 2 = V := ⟨_, rfl⟩
    have hVb : V ≤ 34 := by omega
    rw [hV] at hVe hDs
    replace hV := Lib.hid hV
    have hmV := make_elems (V + M) (by omega)
    push_cast at hmV
    go_upto_region 19 with (fail)
    go_cut [33] (fun a w' => a = .int .i64 9 ∧ Pe w y qy w')
    case first =>
      refine segS_start (gb := fun _ => True) 13 (by kernel_rfl) (by decide) ?_
      intro v0 hv
      replace he := he.up hv
      replace r5 := r5.up hv
      clear hv
      refine segS_batch 7 [0, 1, 2, 3, 4, 5] (by kernel_rfl) rfl (by kernel_rfl) (by kernel_rfl) (by kernel_rfl) ?_
      apply Exists.intro
      refine ⟨fun ι _ φ hφ => ?_, fun v1 hv => ?_⟩
      · have qd := fun i => blk6z ((hφ.old i).keeps he.ky trivial)
        have q0 := fun i => (qd i).1
        have q1 := fun i => (qd i).2.1
        have q2 := fun i => (qd i).2.2.1
        have q3 := fun i => (qd i).2.2.2.1
        have q4 := fun i => (qd i).2.2.2.2.1
        have q5 := fun i => (qd i).2.2.2.2.2
        clear qd
        repeat (refine pick_step rfl ?_; go_big_quiet_step ((go_at_call 27; exact flowS_call hφ (hVe.out _))))
        exact pick_end
      replace he := he.up hv
      replace r5 := r5.up hv
      clear hv
      refine segS_more [6] (by kernel_rfl) (by decide) ?_
      intro z hz
      obtain rfl := List.mem_singleton.1 hz
      refine ⟨by decide, _, rfl, fun v2 K hv hK => ?_⟩
      replace he := he.up hv
      replace r5 := r5.up hv
      clear hv
      replace hK := Lib.hid hK
      go_simp
      refine hK.out _ _ (HeldS.of_below ((Below.refl _ _).alloc (Nat.le_refl _) _)) ?_
      clear hK K
      have hv : Below v2.heap.size v2 (v2.alloc (.cells (ecells (List.replicate (V + M) 0)).toArray 28)) := (Below.refl _ _).alloc (Nat.le_refl _) _
      have r7 := zero_rowP v2 (V + M)
      replace he := he.up hv
      replace r5 := r5.up hv
      clear hv
      generalize v2.alloc (.cells (ecells (List.replicate (V + M) 0)).toArray 28) = v2' at *
      generalize v2.heap.size = g7 at *
      refine segS_batch 0 [7, 8, 9, 10, 11, 12] (by kernel_rfl) rfl (by kernel_rfl) (by kernel_rfl) (by kernel_rfl) ?_
      apply Exists.intro
      refine ⟨fun ι _ φ hφ => ?_, fun v3 hv => ?_⟩
      · repeat (refine pick_step rfl ?_; go_big_quiet_step ((go_at_call 26; exact flowS_call hφ (hDs.out _ _ _ (by omega) _))))
        exact pick_end
      replace he := he.up hv
      replace r5 := r5.up hv
      replace r7 := r7.up hv
      clear hv
      refine segS_done rfl (by kernel_rfl) ?_
      intro v4 hv
      replace he := he.up hv
      replace r5 := r5.up hv
      replace r7 := r7.up hv
      clear hv
      go_wp2
      go_meet
      exact ⟨rfl, he⟩
    clear he r5 hVe hDs hmV
    obtain ⟨rfl, he⟩ := hcut
    go_wp2
    exact bodyPost_ret (v := .bool true) (by simp [results, Tryz.results9, go_sem]) rfl ⟨rfl, he.b⟩
    end Go.Proofs.YtebgfelbffgnbaaGreatDoor
