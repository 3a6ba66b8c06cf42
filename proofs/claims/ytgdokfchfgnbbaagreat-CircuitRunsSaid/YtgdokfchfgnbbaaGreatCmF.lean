/-
  CircuitRuns' walk.
-/
import Derived.Test.YtgdokfchfgnbbaaGreatCmB
import Derived.Test.YtgdokfchfgnbbaaGreatCmE
import Derived.Test.YtgdokfchfgnbbaaGreatDN
import Derived.Test.YtgdokfchfgnbbaaGreatClB
import Derived.Test.YtgdokfchfgnbbaaGreatCkT
import Derived.Deep.Cut
import Derived.Deep.DeepCutAuto
import Derived.Deep.CutBlock
namespace Go.Proofs.YtgdokfchfgnbbaaGreat
open Go.RowKit Flow F
set_option linter.unusedVariables false
set_option linter.unusedSimpArgs false
attribute [local go_sem] eql_elem

theorem part_one {f : Int} (hf : f = 1 ∨ f = 2) : PartIs f 1 1 := by
  obtain ⟨p, hp⟩ := part_of hf 1 (by omega) (by omega)
  have h := hp.mul
  rw [mul_in (in_one f) hp.p0, Int.one_mul, in_em hp.p0] at h
  rw [h] at hp
  exact hp
theorem askQ_len (x : Ci) (h : x.Good) (xs js : List Int) (p : Int) (k : Nat) : (askQ x xs js p k).length = x.arityN := by
  unfold askQ Ci.arityN
  by_cases h1 : x.k = 1
  · rw [if_pos h1, if_pos h1]; rfl
  · rw [if_neg h1, if_neg h1]
    by_cases h2 : x.k = 2
    · rw [if_pos h2, if_pos h2]; rfl
    · rw [if_neg h2, if_neg h2]
      unfold chunkQ
      exact prL_length (by rw [List.length_take]; omega)
theorem gad_none (x : Ci) (h : x.Good) (xs js : List Int) (p : Int) (k : Nat) : gadE x (askQ x xs js p k) = 0 := by unfold gadE; rw [if_pos (askQ_len x h xs js p k)]
theorem stN_count (q : Nat → List Int) : ∀ m, stN (fun (s : Nat) (_ : List Int) => s + 1) q 0 m = m
  | 0 => rfl
  | m + 1 => by simp only [stN]; rw [stN_count q m]
theorem runs_run (x : Ci) (h : x.Good) (vs js : List Int) (g1 g2 pk px I J : Nat) (hl : vs.length = I) (hI : I = x.inN) (hj : js.length = J) (hJ : J = x.jointN) (hv : InF x.f vs) (hji : InF x.f js) (hne : pk ≠ px) (w : World)
    (kk : w.heap[pk]? = some (.cells #[.int .i64 0] 3 (0, 0))) (kx : w.heap[px]? = some (cobj x)) (r1 : Row w g1 vs) (r2 : Row w g2 js) (n1 : g1 ≠ pk ∧ g1 ≠ px) (n2 : g2 ≠ pk ∧ g2 ≠ px) :
    Calls Tryz.prog 8 #[cvl x, .slice (some ⟨g1, 0, none⟩) I I, .slice (some ⟨g2, 0, none⟩) J J, .int .i64 1, .func (.func 9) #[] #[.pointer (some ⟨pk, 0, none⟩), .pointer (some ⟨px, 0, none⟩)]] w
      (AskOut (RunSt pk px x) (fun b => b = pk ∨ b = px) (dirV x vs js) 0 x.callsN w) := by
  have hc := h.calls
  refine (run_ok (runs_asking x h pk px) x h vs js (some ⟨g1, 0, none⟩) (some ⟨g2, 0, none⟩) I I J J 1 1 (part_one h.f) hl hI (Nat.le_refl _) hJ hj hv.ok hji.ok 0 _ w ⟨rfl, hne, kk, kx⟩ r1.elems (fun a e => by cases e; rintro (e | e); exact n1.1 e; exact n1.2 e) r2.elems (fun a e => by cases e; rintro (e | e); exact n2.1 e; exact n2.2 e)
    (fun i hi => by rw [stN_count]; omega)).mono fun e w' hh => ?_
  rcases hh with ⟨j, _, h2, _⟩ | ⟨_, h2⟩
  · exact absurd (gad_none x h vs js 1 j) h2
  · rw [stN_count] at h2
    rw [show runF x vs js 1 (fun k => gadV x (askQ x vs js 1 k)) = dirV x vs js from run_dir x h hv (hl.trans hI) hji] at h2
    exact h2
theorem below_own {own own' : Nat → Prop} {w0 w w' : World} (hb : Below w0.heap.size w0 w) (hm : Moved own own' w w') (hk : ∀ k, k < w0.heap.size → ¬ own k) : Below w0.heap.size w0 w' :=
  ⟨hm.os.trans hb.os, hm.tape.trans hb.tape, hm.output.trans hb.output, Nat.le_trans hb.size hm.size, fun k hk' => (hm.keep k (Nat.lt_of_lt_of_le hk' hb.size) (hk k hk')).1.trans (hb.block k hk')⟩
set_option maxRecDepth 20000 in
set_option maxHeartbeats 8000000 in
theorem runs_walk (K F B L W C : Int) (ls es : List Int) (A1 A2 : Option Addr) (N1 N2 d1 d2 : Nat) (sm : Bool) (hl1 : ls.length = N1) (hl2 : es.length = N2) (ho1 : ElemsOK ls) (ho2 : ElemsOK es) (hm1 : N1 ≤ maxLen) (hm2 : N2 ≤ maxLen)
    (k0 : 0 ≤ K) (k1 : K ≤ 255) (f0 : 0 ≤ F) (f1 : F ≤ 255) (b0 : 0 ≤ B) (b1 : B ≤ 255) (l0 : 0 ≤ L) (l1 : L ≤ 255) (w0 : 0 ≤ W) (w1 : W ≤ 255) (c0 : 0 ≤ C) (c1 : C ≤ 255) (w : World) (hA1 : ElemsAt w A1 ls) (hA2 : ElemsAt w A2 es) :
    Calls Tryz.prog 3 #[svl K F B L W C, .slice A1 N1 d1, .slice A2 N2 d2, .bool sm] w fun e w' => e = .returned (.bool true) ∧ Below w.heap.size w w' := by
  have hAw := Lib.hid (fun w => awake_ok w)
  have hS := Lib.hid (fun w => small_any K F B L W C k0 k1 f0 f1 b0 b1 l0 l1 w0 w1 c0 c1 w)
  obtain ⟨X, hX⟩ : ∃ X, smallC K F B L W C = X := ⟨_, rfl⟩
  have hXg : X.Good := by rw [← hX]; exact small_good _ _ _ _ _ _
  rw [hX] at hS
  clear hX k0 k1 f0 f1 b0 b1 l0 l1 w0 w1 c0 c1
  have hV1 := fun hn w hA => vec_any X hXg ls A1 N1 d1 sm hl1 hn ho1 w hA
  have hJv := fun hn w hA => jvec_any X hXg es A2 N2 d2 hl2 hn ho2 w hA
  obtain ⟨I, hI⟩ : ∃ I, X.inN = I := ⟨_, rfl⟩
  obtain ⟨J, hJN⟩ : ∃ J, X.jointN = J := ⟨_, rfl⟩
  rw [hI] at hV1
  rw [hJN] at hJv
  have hCl := Lib.hid (fun w => callsup_any X hXg w)
  have hRf := Lib.hid (fun w => ref_any X (by have := hXg.fits.k1; omega) (by have := hXg.fits.k5; omega) (by have := hXg.f; omega) (by have := hXg.f; omega) w)
  unfold svl cvl VecOut at *
  unfold maxLen at hm1 hm2
  replace hV1 := Lib.hid hV1
  replace hJv := Lib.hid hJv
  replace hXg := Lib.hid hXg
  replace hI := Lib.hid hI
  replace hJN := Lib.hid hJN
  replace hA1 := Lib.hid hA1
  replace hA2 := Lib.hid hA2
  clear hl1 hl2 ho1 ho2
  go_enter Tryz.func3, Tryz.ntmps3
  go_wp2_with fail
  refine name_calls (fun w1 => Below w.heap.size w w1 ∧ w1.heap[w.heap.size]? = some (.cells #[.int .u8 K, .int .u8 F, .int .u8 B, .int .u8 L, .int .u8 W, .int .u8 C] 23 (0, 0))) ⟨(Below.refl _ _).alloc (Nat.le_refl _) _, alloc_at rfl⟩ ?_
  rintro w1 ⟨hb, ks⟩
  refine call_then (hAw.out _) ?_
  intro w2 hv
  replace ks := keeps hv ks
  replace hb := below_next hb hb.size hv
  clear hv hAw
  by_cases h1 : 60 < N1
  · have n1 : (60 : Int) < (N1 : Int) := by omega
    go_wp2
    go_ret
    exact ⟨rfl, hb⟩
  have n1 : ¬ (60 : Int) < (N1 : Int) := by omega
  by_cases h2 : 60 < N2
  · have n2 : (60 : Int) < (N2 : Int) := by omega
    go_wp2
    go_ret
    exact ⟨rfl, hb⟩
  have n2 : ¬ (60 : Int) < (N2 : Int) := by omega
  replace hV1 := Lib.hid (hV1.out (by omega))
  replace hJv := Lib.hid (hJv.out (by omega))
  obtain ⟨s0, s1, s2, s3, s4, s5⟩ := blk6 ks
  go_wp2_with fail
  refine call_then (hS.out _) ?_
  intro w3 hv
  replace ks := keeps hv ks
  replace hb := below_next hb hb.size hv
  clear s0 s1 s2 s3 s4 s5 hv h1 h2 n1 n2 hS
  have hpx := Lib.hid (lt_of_get ks)
  go_upto_region 6 with (fail)
  refine name_wp (fun w4 => Below w.heap.size w w4 ∧ w4.heap[w3.heap.size]? = some (cobj X)) ⟨hb.alloc hb.size _, alloc_at rfl⟩ ?_
  clear hb ks
  generalize w3.heap.size = px at *
  rintro w4 ⟨hb, kz⟩
  clear w1 w2 w3
  go_cut [10, 11] (fun a b w' => ∃ g1 g2 vs js, a = .slice (some ⟨g1, 0, none⟩) I I ∧ b = .slice (some ⟨g2, 0, none⟩) J J ∧ px < g1 ∧ px < g2 ∧ Below w.heap.size w w' ∧ w'.heap[px]? = some (cobj X) ∧ Row w' g1 vs ∧ Row w' g2 js ∧ vs.length = I ∧ js.length = J ∧ InF X.f vs ∧ InF X.f js)
  case first =>
    refine segS_start (gb := fun k => k ≤ px) 7 (by kernel_rfl) (by decide) ?_
    intro v0 hv
    replace hb := below_next hb hb.size hv
    try replace kz := keeps hv kz
    try replace r1 := r1.up hv
    try replace r2 := r2.up hv
    clear hv
    refine segS_batch 2 [0, 1, 2, 4, 5] (by kernel_rfl) rfl (by kernel_rfl) (by kernel_rfl) (by kernel_rfl) ?_
    apply Exists.intro
    refine ⟨fun ι _ φ hφ => ?_, fun v1 hv => ?_⟩
    · have qd := fun i => blk6z ((hφ.old i).keeps kz (Nat.le_refl _))
      have q0 := fun i => (qd i).1
      have q1 := fun i => (qd i).2.1
      have q2 := fun i => (qd i).2.2.1
      have q3 := fun i => (qd i).2.2.2.1
      have q4 := fun i => (qd i).2.2.2.2.1
      have q5 := fun i => (qd i).2.2.2.2.2
      clear qd
      repeat (refine pick_step rfl ?_; go_big_quiet_step (fail))
      exact pick_end
    replace hb := below_next hb hb.size hv
    try replace kz := keeps hv kz
    try replace r1 := r1.up hv
    try replace r2 := r2.up hv
    clear hv
    refine segS_one 3 _ (by decide) rfl (by kernel_rfl) ?_
    intro v2 K' hv hK
    replace hb := below_next hb hb.size hv
    try replace kz := keeps hv kz
    try replace r1 := r1.up hv
    try replace r2 := r2.up hv
    clear hv
    replace hK := Lib.hid hK
    go_simp
    refine (hV1.out _ (hA1.out.up hb)).mono ?_
    rintro e v' ⟨g1, vs, rfl, hv, hgl, rn, hvl, hvi⟩
    refine hK.out _ _ (HeldS.of_below hv) ?_
    clear hK K'
    have hg1 := Lib.hid (Nat.lt_of_lt_of_le (lt_of_get kz) hgl)
    replace hb := below_next hb hb.size hv
    try replace kz := keeps hv kz
    try replace r1 := r1.up hv
    try replace r2 := r2.up hv
    clear hv
    have r1 := rn
    clear rn hgl
    refine segS_one 6 _ (by decide) rfl (by kernel_rfl) ?_
    intro v3 K' hv hK
    replace hb := below_next hb hb.size hv
    try replace kz := keeps hv kz
    try replace r1 := r1.up hv
    try replace r2 := r2.up hv
    clear hv
    replace hK := Lib.hid hK
    go_simp
    refine (hJv.out _ (hA2.out.up hb)).mono ?_
    rintro e v' ⟨g2, js, rfl, hv, hgl, rn, hjl, hji⟩
    refine hK.out _ _ (HeldS.of_below hv) ?_
    clear hK K'
    have hg2 := Lib.hid (Nat.lt_of_lt_of_le (lt_of_get kz) hgl)
    replace hb := below_next hb hb.size hv
    try replace kz := keeps hv kz
    try replace r1 := r1.up hv
    try replace r2 := r2.up hv
    clear hv
    have r2 := rn
    clear rn hgl
    refine segS_tail (by kernel_rfl) ?_
    intro vz hv
    replace hb := below_next hb hb.size hv
    try replace kz := keeps hv kz
    try replace r1 := r1.up hv
    try replace r2 := r2.up hv
    clear hv
    simp only [List.drop_succ_cons, List.drop_zero]
    go_wp2
    refine calm_normal ?_
    go_wp2
    go_meet
    exact ⟨g1, g2, vs, js, rfl, rfl, hg1.out, hg2.out, hb, kz, r1, r2, hvl, hjl, hvi, hji⟩
  clear hb kz w4 hV1 hJv hA1 hA2
  obtain ⟨g1, g2, vs, js, rfl, rfl, hg1, hg2, hb, kz, r1, r2, hvl, hjl, hvi, hji⟩ := hcut
  have hrun := fun pk hne w kk kx r1 r2 n1 n2 => runs_run X hXg.out vs js g1 g2 pk px I J hvl hI.out.symm hjl hJN.out.symm hvi hji hne w kk kx r1 r2 n1 n2
  have hDr := fun w hA hB => rdirect_any X hXg.out vs js (some ⟨g1, 0, none⟩) (some ⟨g2, 0, none⟩) I I J J hvl hI.out.symm hjl hJN.out.symm (Nat.le_refl _) hvi hji w hA hB
  have hVr := fun w hA => rvalid_ok X hXg.out vs (some ⟨g1, 0, none⟩) I I hvl hI.out.symm hvi w hA
  have hRi := dir_right X hXg.out (js := js) (hvl.trans hI.out.symm)
  obtain ⟨R, hR⟩ : ∃ R, dirV X vs js = R := ⟨_, rfl⟩
  obtain ⟨Vb, hVb⟩ : ∃ Vb, validB X vs = Vb := ⟨_, rfl⟩
  rw [hR] at hrun hDr hRi
  rw [hVb] at hVr hRi
  clear hR hVb hvl hjl hvi hji
  have hcn := hXg.out.calls
  obtain ⟨n, hn⟩ : ∃ n, X.callsN = n := ⟨_, rfl⟩
  rw [hn] at hrun
  have hCl' := hCl.out
  rw [hn] at hCl'
  replace hCl' := Lib.hid hCl'
  clear hCl
  unfold AskOut cvl at hrun
  unfold rvl at hDr hVr hRf
  replace hrun := Lib.hid hrun
  replace hDr := Lib.hid hDr
  replace hVr := Lib.hid hVr
  replace hRi := Lib.hid hRi
  replace hn := Lib.hid hn
  replace hg1 := Lib.hid hg1
  replace hg2 := Lib.hid hg2
  go_upto_region 8 with (fail)
  have hv := (Below.refl wc.heap.size wc).alloc (Nat.le_refl _) (.cells #[.int .i64 0] 3)
  have l0 := Lib.hid (lt_of_get kz)
  have l1 := Lib.hid (lt_of_get r1)
  have l2 := Lib.hid (lt_of_get r2)
  refine name_wp (fun v1 => Below w.heap.size w v1 ∧ v1.heap[px]? = some (cobj X) ∧ Row v1 g1 vs ∧ Row v1 g2 js ∧ v1.heap[wc.heap.size]? = some (.cells #[.int .i64 0] 3 (0, 0))) ⟨below_next hb hb.size hv, keeps hv kz, r1.up hv, r2.up hv, alloc_at rfl⟩ ?_
  clear hb kz r1 r2 hv
  generalize wc.heap.size = pk at *
  rintro v1 ⟨hb, kz, r1, r2, kk⟩
  obtain ⟨q0, q1, q2, q3, q4, q5⟩ := blk6z kz
  have hmf : ∀ (fn : Fn) (first cap : Array Value) (w : World), (Instr.makeFunc fn first cap).run Tryz.prog w = .ok (.func fn first cap) w := fun _ _ _ _ => rfl
  have hr9 := Lib.hid (hrun.out pk (by have := l0.out; omega) v1 kk kz r1 r2 (by have := hg1.out; have := l1.out; omega) (by have := hg2.out; have := l2.out; omega))
  clear hrun
  go_wp2_with fail
  refine hr9.out.mono ?_
  rintro e v2 ⟨rfl, own', hm, hst⟩
  obtain ⟨-, -, kk2, kz2⟩ := hst
  have hb2 := below_own hb hm (fun k hk h => by have := hpx.out; have := l0.out; rcases h with h | h <;> omega)
  have r12 : Row v2 g1 vs := hm.heap (by have := hg1.out; have := l1.out; omega) r1
  have r22 : Row v2 g2 js := hm.heap (by have := hg2.out; have := l2.out; omega) r2
  clear hr9 hm hb kz r1 r2 kk q0 q1 q2 q3 q4 q5
  go_upto_region 9 with (fail)
  have hv := (Below.refl v2.heap.size v2).alloc (Nat.le_refl _) (.cells #[.int .u64 (lo R), .int .u64 (hi R)] 35)
  refine name_wp (fun v3 => Below w.heap.size w v3 ∧ v3.heap[px]? = some (cobj X) ∧ Row v3 g1 vs ∧ Row v3 g2 js ∧ v3.heap[pk]? = some (.cells #[.int .i64 (n : Int)] 3 (0, 0)) ∧ Holds v3 v2.heap.size R) ⟨below_next hb2 hb2.size hv, keeps hv kz2, r12.up hv, r22.up hv, keeps hv kk2, alloc_at rfl⟩ ?_
  clear hb2 kz2 r12 r22 kk2 hv
  generalize v2.heap.size = pg at *
  rintro v3 ⟨hb, kz, r1, r2, kk, kg⟩
  have hnn : ((n : Int) == (n : Int)) = true := by simp
  cases Vb with
  | false =>
    refine wp_region_flow0 (by kernel_rfl) (by kernel_rfl) ?_
    intro ι _ φ hφ
    have y := fun i => blk6z (keeps (hφ.old i) kz)
    have y0 := fun i => (y i).1
    have y1 := fun i => (y i).2.1
    have y2 := fun i => (y i).2.2.1
    have y3 := fun i => (y i).2.2.2.1
    have y4 := fun i => (y i).2.2.2.2.1
    have y5 := fun i => (y i).2.2.2.2.2
    clear y
    have y6 : ∀ i, (φ i).cell? ⟨pk, 0, none⟩ = some (.int .i64 (n : Int)) := fun i => by
      have h9 := keeps (hφ.old i) kk
      simp [World.cell?, h9]
    obtain ⟨y7, y8⟩ := hφ.two kg
    have hD2 := Lib.hid (fun i => hDr.out (φ i) (r1.up (hφ.old i)).elems (r2.up (hφ.old i)).elems)
    have hV2 := Lib.hid (fun i => hVr.out (φ i) (r1.up (hφ.old i)).elems)
    repeat (go_big_quiet_step ((first
      | (go_at_call 12; with_reducible exact flow_call hφ (hCl'.out _))
      | (go_at_call 13; with_reducible exact flow_call hφ (hRf.out _))
      | (go_at_call 14; with_reducible exact flow_call hφ (hD2.out _))
      | (go_at_call 15; with_reducible exact flow_call hφ (hV2.out _)))))
    refine wpQuiet_nil ?_
    intro v9 hv
    replace hb := below_next hb hb.size hv
    go_wp2
    go_ret
    exact ⟨rfl, hb⟩
  | true =>
    obtain rfl := hRi.out rfl
    refine wp_region_flow0 (by kernel_rfl) (by kernel_rfl) ?_
    intro ι _ φ hφ
    have y := fun i => blk6z (keeps (hφ.old i) kz)
    have y0 := fun i => (y i).1
    have y1 := fun i => (y i).2.1
    have y2 := fun i => (y i).2.2.1
    have y3 := fun i => (y i).2.2.2.1
    have y4 := fun i => (y i).2.2.2.2.1
    have y5 := fun i => (y i).2.2.2.2.2
    clear y
    have y6 : ∀ i, (φ i).cell? ⟨pk, 0, none⟩ = some (.int .i64 (n : Int)) := fun i => by
      have h9 := keeps (hφ.old i) kk
      simp [World.cell?, h9]
    obtain ⟨y7, y8⟩ := hφ.two kg
    have hD2 := Lib.hid (fun i => hDr.out (φ i) (r1.up (hφ.old i)).elems (r2.up (hφ.old i)).elems)
    have hV2 := Lib.hid (fun i => hVr.out (φ i) (r1.up (hφ.old i)).elems)
    rw [show lo 0 = 0 from rfl] at y7
    rw [show hi 0 = 0 from rfl] at y8
    rw [show lo 0 = 0 from rfl, show hi 0 = 0 from rfl] at hD2
    repeat (go_big_quiet_step ((first
      | (go_at_call 12; with_reducible exact flow_call hφ (hCl'.out _))
      | (go_at_call 13; with_reducible exact flow_call hφ (hRf.out _))
      | (go_at_call 14; with_reducible exact flow_call hφ (hD2.out _))
      | (go_at_call 15; with_reducible exact flow_call hφ (hV2.out _)))))
    refine wpQuiet_nil ?_
    intro v9 hv
    replace hb := below_next hb hb.size hv
    go_wp2
    go_ret
    exact ⟨rfl, hb⟩
end Go.Proofs.YtgdokfchfgnbbaaGreat
