/-
  TotalAdds: its walk.
-/
import Derived.Test.YtpojhomccmfffaaDoorEG
namespace Go.Proofs.YtpojhomccmfffaaDoor
open Go.RowKit Flow F
set_option linter.unusedVariables false
set_option linter.unusedSimpArgs false
attribute [local go_sem] eql_elem eqlIn_chkC

theorem RpOK.up {w w' : World} {r : Rp} {y : List Int} (h : RpOK w r y) (hb : Below w.heap.size w w') : RpOK w' r y := ⟨h.id, h.len, h.le, h.at'.up hb, h.ok⟩
def nulTask : List Value := [.int .u8 0, .int .u8 0, .int .i64 0, .int .i64 0, .int .i64 0, .int .i64 0, .int .i64 0, .string ⟨#[]⟩]
set_option maxRecDepth 20000 in
set_option maxHeartbeats 8000000 in
theorem adds_walk (x : Ci) (p : Int) (s : ByteArray) (h : TGood x p s) (K F' B' L W' C P T : Int) (cut : Int) (c0 : 0 ≤ cut) (c1 : cut < 256) (n : Nat) (A : Option Addr) (cA : Nat) (hcA : n ≤ cA) (rs : Nat → Rp) (ys : Nat → List Int)
    (w : World) (hT : Tabs w) (hR : RpsAt w A n rs) (hP : ∀ k, RpOK w (rs k) (ys k)) (hTk : ∀ w, Calls Tryd.prog 12 #[.agg (s13 K F' B' L W' C P T).toArray] w fun e w' => e = .returned (tvl x p s) ∧ Below w.heap.size w w') :
    Calls Tryd.prog 3 #[.agg (s13 K F' B' L W' C P T).toArray, .slice A n cA, .int .u8 cut] w fun e w' => e = .returned (.bool true) ∧ Below w.heap.size w w' := by
  have hAw := Lib.hid (fun w hT => tawake_ok w hT)
  have hSu := Lib.hid (fun w (hn : n ≤ 20) (hT : Tabs w) hR hP => lsum_ok x p s h x.outN rfl n hn A cA rs ys w hT hR hP)
  have hAd := Lib.hid (fun (a : Nat) (ha : a ≤ 20) (A B : Option Addr) (cA cB : Nat) (rs : Nat → Rp) (hid : ∀ k, IdOK (rs k).ns) gs (ys : Nat → List Int) (w : World) (hT : Tabs w) hR hO => ladd_ok x p s h x.outN rfl a ha A B cA cB rs hid gs (fun k => outL x.f x.outN (ys k)) (fun k => outL_len _ _ _) (fun k => outL_ok _ _ _) w hT hR hO)
  have hN4 : x.outN ≤ 4096 := out_le4 h.good
  have hMe := Lib.hid (fun (w : World) (a b : Nat) (ha : a + b ≤ 20) (g1 g2 : Nat) (rs1 rs2 : Nat → Rp) (ys1 ys2 : Nat → List Int) hr1 hr2 => (merge_ok x p s h (sumK x.f x.outN (fun k => outL x.f x.outN (ys1 k)) a) (sumK x.f x.outN (fun k => outL x.f x.outN (ys2 k)) b) (some ⟨g1, 0, none⟩) (some ⟨g2, 0, none⟩) x.outN x.outN x.outN x.outN (a : Int) (b : Int) (chkK (fun k => (rs1 k).ns) a) (chkK (fun k => (rs2 k).ns) b)
    (by
      unfold few
      have h1 : ¬ ((a : Int) < 0) := by omega
      have h2 : ¬ ((a : Int) > 256) := by omega
      have h3 : ¬ ((b : Int) > 256 - (a : Int)) := by omega
      have h4 : ¬ ((b : Int) < 0) := by omega
      simp [h1, h2, h3, h4])
    rfl rfl (sumK_ok (fun k => outL_ok _ _ _) a) (sumK_ok (fun k => outL_ok _ _ _) b) (sumK_len (fun k => outL_len _ _ _) a) (sumK_len (fun k => outL_len _ _ _) b) (chkK_lim _ a) (chkK_lim _ b) w (Row.elems hr1) (Row.elems hr2) : Calls Tryd.prog 15 #[totv (.slice (some ⟨g1, 0, none⟩) x.outN x.outN) (a : Int) (chkK (fun k => (rs1 k).ns) a), tvl x p s, totv (.slice (some ⟨g2, 0, none⟩) x.outN x.outN) (b : Int) (chkK (fun k => (rs2 k).ns) b)] w _))
  replace hTk := Lib.hid hTk
  replace hT := Lib.hid hT
  replace hR := Lib.hid hR
  replace hP := Lib.hid hP
  have honet := Lib.hid (one_tcl x p s)
  unfold tvl at hTk hMe
  generalize hNN : x.outN = N at *
  clear h
  go_enter Tryd.func3, Tryd.ntmps3
  go_upto_region 1 with (fail)
  refine name_wp (fun w1 => Below w.heap.size w w1 ∧ w1.heap[w.heap.size]? = some (.cells (s13 K F' B' L W' C P T).toArray 25 (0, 0))) ⟨(Below.refl _ _).alloc (Nat.le_refl _) _, alloc_at rfl⟩ ?_
  rintro w1 ⟨hb, ks⟩
  go_upto_region 3 with ((go_at_call 11; refine call_then (hAw.out _ (hT.out.up hb)) ?_; intro w2 hv))
  replace hb := below_next hb hb.size hv
  try (replace ks := keeps hv ks)
  try (replace kt := keeps hv kt)
  try (replace k8 := keeps hv k8)
  try (replace k10 := keeps hv k10)
  try (replace k13 := keeps hv k13)
  try (replace k15 := keeps hv k15)
  try (replace r8 := r8.up hv)
  try (replace r10 := r10.up hv)
  try (replace r13 := r13.up hv)
  try (replace r15 := r15.up hv)
  try (replace hOu := hOu.up hv)
  clear hv
  clear hAw
  by_cases hn : n ≤ 20
  · have n0 : decide ((n : Int) > 20) = false := by simp; omega
    have n1 : (n : Int) ≤ 20 := by omega
    go_upto_region 5 with (fail)
    go_wp2_with (first
      | (refine list_load_mid _ _ _ 0 _ _ rfl rfl rfl (At0.of_block ks) Tryd.underlying25 rfl (by kernel_rfl) ?_))
    refine call_then (hTk.out _) ?_
    intro w3 hv
    replace hb := below_next hb hb.size hv
    try (replace ks := keeps hv ks)
    try (replace kt := keeps hv kt)
    try (replace k8 := keeps hv k8)
    try (replace k10 := keeps hv k10)
    try (replace k13 := keeps hv k13)
    try (replace k15 := keeps hv k15)
    try (replace r8 := r8.up hv)
    try (replace r10 := r10.up hv)
    try (replace r13 := r13.up hv)
    try (replace r15 := r15.up hv)
    try (replace hOu := hOu.up hv)
    clear hv
    clear hTk ks
    go_upto_region 6 with (first
      | (refine list_store_whole _ _ _ _ (tcl x p s) nulTask 33 rfl rfl rfl rfl (alloc_at rfl) rfl (by kernel_rfl) honet.out ?_; intro wm hbut kt))
    have hv := hbut.below ((Below.refl w3.heap.size w3).alloc (Nat.le_refl _) (.cells nulTask.toArray 33 (0, 0))) (Nat.le_refl _) (by simp)
    clear hbut
    replace hb := below_next hb hb.size hv
    try (replace ks := keeps hv ks)
    try (replace kt := keeps hv kt)
    try (replace k8 := keeps hv k8)
    try (replace k10 := keeps hv k10)
    try (replace k13 := keeps hv k13)
    try (replace k15 := keeps hv k15)
    try (replace r8 := r8.up hv)
    try (replace r10 := r10.up hv)
    try (replace r13 := r13.up hv)
    try (replace r15 := r15.up hv)
    try (replace hOu := hOu.up hv)
    clear hv
    generalize w3.heap.size = q7 at *
    clear w3
    go_wp2_with (first
      | (refine list_load_mid _ _ _ 0 _ _ rfl rfl rfl (At0.of_block kt) Tryd.underlying33 rfl (by kernel_rfl) ?_)
      | (refine list_load_mid _ _ _ 0 _ _ rfl rfl rfl (At0.of_block ks) Tryd.underlying25 rfl (by kernel_rfl) ?_))
    refine (hSu.out _ hn (hT.out.up hb) (hR.out.up hb) (fun k => (hP.out k).up hb)).mono ?_
    rintro e w4 ⟨g8, B, cB, gs, rfl, hv, hg8, r8, hnB, hOu⟩
    replace hnB := Lib.hid hnB
    clear hg8 hSu
    replace hb := below_next hb hb.size hv
    try (replace ks := keeps hv ks)
    try (replace kt := keeps hv kt)
    try (replace k8 := keeps hv k8)
    try (replace k10 := keeps hv k10)
    try (replace k13 := keeps hv k13)
    try (replace k15 := keeps hv k15)
    try (replace r8 := r8.up hv)
    try (replace r10 := r10.up hv)
    try (replace r13 := r13.up hv)
    try (replace r15 := r15.up hv)
    try (replace hOu := hOu.up hv)
    clear hv
    have hone := Lib.hid (one_tot (A := some ⟨g8, 0, none⟩) (n := N) (cp := N) (n : Int) (chkK (fun k => (rs k).ns) n))
    go_upto_region 7 with (first
      | (refine list_store_whole _ _ _ _ (tot (.slice (some ⟨g8, 0, none⟩) N N) (n : Int) (chkK (fun k => (rs k).ns) n)) noTot 39 rfl rfl rfl rfl (alloc_at rfl) rfl (by kernel_rfl) hone.out ?_; intro wm hbut k8))
    have hv := hbut.below ((Below.refl w4.heap.size w4).alloc (Nat.le_refl _) (.cells noTot.toArray 39 (0, 0))) (Nat.le_refl _) (by simp)
    clear hbut hone
    have k8' := k8
    clear k8
    replace hb := below_next hb hb.size hv
    try (replace ks := keeps hv ks)
    try (replace kt := keeps hv kt)
    try (replace k8 := keeps hv k8)
    try (replace k10 := keeps hv k10)
    try (replace k13 := keeps hv k13)
    try (replace k15 := keeps hv k15)
    try (replace r8 := r8.up hv)
    try (replace r10 := r10.up hv)
    try (replace r13 := r13.up hv)
    try (replace r15 := r15.up hv)
    try (replace hOu := hOu.up hv)
    clear hv
    have k8 := k8'
    clear k8'
    generalize w4.heap.size = q8 at *
    clear w4
    go_wp2_with (first
      | (refine list_load_mid _ _ _ 0 _ _ rfl rfl rfl (At0.of_block kt) Tryd.underlying33 rfl (by kernel_rfl) ?_)
      | (refine list_load_mid _ _ _ 0 _ _ rfl rfl rfl (At0.of_block ks) Tryd.underlying25 rfl (by kernel_rfl) ?_))
    refine (hAd.out n hn A B cA cB rs (fun k => (hP.out k).id) gs ys _ (hT.out.up hb) (hR.out.up hb) hOu).mono ?_
    rintro e w4 ⟨g10, rfl, hv, hg10, r10⟩
    clear hg10
    replace hb := below_next hb hb.size hv
    try (replace ks := keeps hv ks)
    try (replace kt := keeps hv kt)
    try (replace k8 := keeps hv k8)
    try (replace k10 := keeps hv k10)
    try (replace k13 := keeps hv k13)
    try (replace k15 := keeps hv k15)
    try (replace r8 := r8.up hv)
    try (replace r10 := r10.up hv)
    try (replace r13 := r13.up hv)
    try (replace r15 := r15.up hv)
    try (replace hOu := hOu.up hv)
    clear hv
    have hone := Lib.hid (one_tot (A := some ⟨g10, 0, none⟩) (n := N) (cp := N) (n : Int) (chkK (fun k => (rs k).ns) n))
    obtain ⟨a, ha⟩ : ∃ a, cut.toNat % (n + 1) = a := ⟨_, rfl⟩
    have han : a ≤ n := by have := Nat.mod_lt cut.toNat (show 0 < n + 1 by omega); omega
    have hti : cut.tmod ((n : Int) + 1) = (a : Int) := by
      rw [← ha, show cut = ((cut.toNat : Nat) : Int) by omega]
      rfl
    have np : (n : Int) + 1 ≠ 0 := by omega
    have a0 : (0 : Int) ≤ (a : Int) := by omega
    have a1 : (a : Int) ≤ (n : Int) := by omega
    have a2 : (a : Int) ≤ (cA : Int) := by omega
    have za : IntKind.i64.wrap (a : Int) = (a : Int) := wrap_i rfl (by omega)
    replace ha := Lib.hid ha
    go_upto_region 9 with (first
      | (refine list_store_whole _ _ _ _ (tot (.slice (some ⟨g10, 0, none⟩) N N) (n : Int) (chkK (fun k => (rs k).ns) n)) noTot 39 rfl rfl rfl rfl (alloc_at rfl) rfl (by kernel_rfl) hone.out ?_; intro wm hbut k10))
    have hv := hbut.below ((Below.refl w4.heap.size w4).alloc (Nat.le_refl _) (.cells noTot.toArray 39 (0, 0))) (Nat.le_refl _) (by simp)
    clear hbut hone
    have k10' := k10
    clear k10
    replace hb := below_next hb hb.size hv
    try (replace ks := keeps hv ks)
    try (replace kt := keeps hv kt)
    try (replace k8 := keeps hv k8)
    try (replace k10 := keeps hv k10)
    try (replace k13 := keeps hv k13)
    try (replace k15 := keeps hv k15)
    try (replace r8 := r8.up hv)
    try (replace r10 := r10.up hv)
    try (replace r13 := r13.up hv)
    try (replace r15 := r15.up hv)
    try (replace hOu := hOu.up hv)
    clear hv
    have k10 := k10'
    clear k10'
    generalize w4.heap.size = q10 at *
    clear w4 hti np
    obtain ⟨A1, hcut1, hR1⟩ := cut_repsH A n cA a han hcA
    obtain ⟨B1, hcut2, hO1⟩ := cut_outsH B n cB a han hnB.out
    replace hR1 := Lib.hid hR1
    replace hO1 := Lib.hid hO1
    have hwq : q7 < wm.heap.size := lt_of_get kt
    go_cut [13, 14] (fun v u w' => ∃ q13 g13, v = .pointer (some ⟨q13, 0, none⟩) ∧ u = .int .i64 0 ∧ Below wm.heap.size wm w' ∧ w'.heap[q13]? = some (.cells (tot (.slice (some ⟨g13, 0, none⟩) N N) (a : Int) (chkK (fun k => (rs k).ns) a)).toArray 39 (0, 0)) ∧ Row w' g13 (sumK x.f N (fun k => outL x.f N (ys k)) a))
    case first =>
      as_aux_lemma =>
        have hz := Below.refl wm.heap.size wm
        refine segS_start (gb := fun k => k < wm.heap.size) 14 (by kernel_rfl) (by decide) ?_
        intro v0 hv
        replace hz := below_next hz hz.size hv
        try (replace kn := keeps hv kn)
        try (replace rn := rn.up hv)
        clear hv
        have ktz := keeps hz kt
        refine segS_batch 7 [0, 1, 2, 3, 4, 5, 6] (by kernel_rfl) rfl (by kernel_rfl) (by kernel_rfl) (by kernel_rfl) ?_
        apply Exists.intro
        refine ⟨fun ι _ φ hφ => ?_, fun v1 hv => ?_⟩
        · repeat (refine pick_step rfl ?_; first
            | (refine quiet_load_mid _ _ _ 0 _ _ rfl rfl rfl (mid_familyT hφ (At0.of_block ktz) hwq) Tryd.underlying33 rfl (by kernel_rfl) ?_; simp only [Act.put, List.setIfInBounds_toArray, List.set_cons_succ, List.set_cons_zero])
            | go_big_quiet_step (fail))
          exact pick_end
        replace hz := below_next hz hz.size hv
        try (replace kn := keeps hv kn)
        try (replace rn := rn.up hv)
        clear hv
        clear ktz
        refine segS_more [7, 11] (by kernel_rfl) (by decide) ?_
        intro j hj
        simp only [List.mem_cons, List.not_mem_nil, or_false] at hj
        rcases hj with rfl | rfl
        · refine ⟨by decide, _, rfl, ?_⟩
          intro v9 K2 hv hK
          replace hz := below_next hz hz.size hv
          try (replace kn := keeps hv kn)
          try (replace rn := rn.up hv)
          clear hv
          have hA2 := Lib.hid (hAd.out a (by omega) A1 B1 cA cB rs (fun k => (hP.out k).id) gs ys v9 (hT.out.up (below_next hb hb.size hz)) ((hR1.out _ _ (hR.out.up hb)).up hz) ((hO1.out _ _ _ _ hOu).up hz))
          replace hK := Lib.hid hK
          go_simp
          refine hA2.out.mono ?_
          rintro e vb ⟨gn, rfl, hv, hgn, rn⟩
          refine hK.out _ _ (HeldS.of_below hv) ?_
          try (have hgq : gn ≠ qn := by have := lt_of_get kn; omega)
          clear hK hA2 K2 hgn
          replace hz := below_next hz hz.size hv
          try (replace kn := keeps hv kn)
          try (replace rn := rn.up hv)
          clear hv
          refine segS_batch 3 [8, 9, 10] (by kernel_rfl) rfl (by kernel_rfl) (by kernel_rfl) (by kernel_rfl) ?_
          apply Exists.intro
          refine ⟨fun ι _ φ hφ => ?_, fun v4 hv => ?_⟩
          · repeat (refine pick_step rfl ?_; go_big_quiet_step (fail))
            exact pick_end
          replace hz := below_next hz hz.size hv
          try (replace kn := keeps hv kn)
          try (replace rn := rn.up hv)
          clear hv
          refine segS_one 11 _ (by decide) rfl (by kernel_rfl) ?_
          intro v7 K2 hv hK
          replace hz := below_next hz hz.size hv
          try (replace kn := keeps hv kn)
          try (replace rn := rn.up hv)
          clear hv
          replace hK := Lib.hid hK
          go_simp
          have hv := (Below.refl v7.heap.size v7).alloc (Nat.le_refl _) (.cells #[.slice none 0 0, .int .i64 0, .int .u8 0, .int .u8 0, .int .u8 0, .int .u8 0, .int .u8 0, .int .u8 0, .int .u8 0, .int .u8 0, .int .u8 0, .int .u8 0, .int .u8 0, .int .u8 0, .int .u8 0, .int .u8 0, .int .u8 0, .int .u8 0] 39 (0, 0))
          refine hK.out _ _ (HeldS.of_below hv) ?_
          clear hK K2
          have kn : (v7.alloc (.cells #[.slice none 0 0, .int .i64 0, .int .u8 0, .int .u8 0, .int .u8 0, .int .u8 0, .int .u8 0, .int .u8 0, .int .u8 0, .int .u8 0, .int .u8 0, .int .u8 0, .int .u8 0, .int .u8 0, .int .u8 0, .int .u8 0, .int .u8 0, .int .u8 0] 39 (0, 0))).heap[v7.heap.size]? = some (.cells noTot.toArray 39 (0, 0)) := alloc_at rfl
          have hqz : wm.heap.size ≤ v7.heap.size := hz.size
          try (have hgq : gn ≠ v7.heap.size := by have := lt_of_get rn; omega)
          replace hz := below_next hz hz.size hv
          try (replace kn := keeps hv kn)
          try (replace rn := rn.up hv)
          clear hv
          generalize v7.alloc (.cells #[.slice none 0 0, .int .i64 0, .int .u8 0, .int .u8 0, .int .u8 0, .int .u8 0, .int .u8 0, .int .u8 0, .int .u8 0, .int .u8 0, .int .u8 0, .int .u8 0, .int .u8 0, .int .u8 0, .int .u8 0, .int .u8 0, .int .u8 0, .int .u8 0] 39 (0, 0)) = v8 at *
          generalize v7.heap.size = qn at *
          refine segS_one 12 _ (by decide) rfl (by kernel_rfl) ?_
          intro vc K2 hv hK
          replace hz := below_next hz hz.size hv
          try (replace kn := keeps hv kn)
          try (replace rn := rn.up hv)
          clear hv
          replace hK := Lib.hid hK
          obtain ⟨I, hI2⟩ : ∃ I, tot (.slice (some ⟨gn, 0, none⟩) N N) (a : Int) (chkK (fun k => (rs k).ns) a) = I := ⟨_, rfl⟩
          have hIl : I.length = 18 := by rw [← hI2]; exact tot_len _ _ _
          have hone : ∀ u ∈ I, u.oneCell' = true := by rw [← hI2]; exact one_tot _ _
          have hbut : But qn vc (vc.setCells qn 0 I) := (But.refl qn vc).setCells I 0 vc
          have k8n : (vc.setCells qn 0 I).heap[qn]? = some (.cells I.toArray 39 (0, 0)) := by
            rw [heap_setCells _ _ _ _ _ _ _ kn, build_one _ _ (by rw [hIl]; rfl)]
          rw [if_pos (by kernel_rfl)]
          refine wp_store_mid 39 _ _ rfl qn 0 I.toArray rfl (by rw [← hI2]; rfl) (fun j hj => ?_) (by simp only [List.size_toArray, hIl]; exact info_total) (by simpa using hone) (hK.out _ _ ⟨hbut.os, hbut.tape, hbut.output, hbut.size, fun b hb hne => hbut.block b hb (by have : b < wm.heap.size := hne; omega)⟩ ?_)
          · have hj' : j < 18 := by rw [← hIl]; simpa using hj
            simp [World.cell?, World.frozen?, kn]
            exact hj'
          replace hz := hbut.below hz hqz hz.size
          replace rn : Row (vc.setCells qn 0 I) gn _ := (hbut.block _ (lt_of_get rn) hgq).trans rn
          clear hK K2 hbut kn
          have kn := k8n
          clear k8n
          generalize vc.setCells qn 0 I = vd at *
          try rw [put_noneT]
          refine segS_batch 0 [13] (by kernel_rfl) rfl (by kernel_rfl) (by kernel_rfl) (by kernel_rfl) ?_
          apply Exists.intro
          refine ⟨fun ι _ φ hφ => ?_, fun v4 hv => ?_⟩
          · repeat (refine pick_step rfl ?_; go_big_quiet_step (fail))
            exact pick_end
          replace hz := below_next hz hz.size hv
          try (replace kn := keeps hv kn)
          try (replace rn := rn.up hv)
          clear hv
          refine segS_done rfl (by kernel_rfl) ?_
          intro v5 hv
          replace hz := below_next hz hz.size hv
          try (replace kn := keeps hv kn)
          try (replace rn := rn.up hv)
          clear hv
          subst hI2
          go_wp2
          go_meet
          exact ⟨qn, gn, rfl, rfl, hz, kn, rn⟩
        · refine ⟨by decide, _, rfl, ?_⟩
          intro v7 K2 hv hK
          replace hz := below_next hz hz.size hv
          try (replace kn := keeps hv kn)
          try (replace rn := rn.up hv)
          clear hv
          replace hK := Lib.hid hK
          go_simp
          have hv := (Below.refl v7.heap.size v7).alloc (Nat.le_refl _) (.cells #[.slice none 0 0, .int .i64 0, .int .u8 0, .int .u8 0, .int .u8 0, .int .u8 0, .int .u8 0, .int .u8 0, .int .u8 0, .int .u8 0, .int .u8 0, .int .u8 0, .int .u8 0, .int .u8 0, .int .u8 0, .int .u8 0, .int .u8 0, .int .u8 0] 39 (0, 0))
          refine hK.out _ _ (HeldS.of_below hv) ?_
          clear hK K2
          have kn : (v7.alloc (.cells #[.slice none 0 0, .int .i64 0, .int .u8 0, .int .u8 0, .int .u8 0, .int .u8 0, .int .u8 0, .int .u8 0, .int .u8 0, .int .u8 0, .int .u8 0, .int .u8 0, .int .u8 0, .int .u8 0, .int .u8 0, .int .u8 0, .int .u8 0, .int .u8 0] 39 (0, 0))).heap[v7.heap.size]? = some (.cells noTot.toArray 39 (0, 0)) := alloc_at rfl
          have hqz : wm.heap.size ≤ v7.heap.size := hz.size
          try (have hgq : gn ≠ v7.heap.size := by have := lt_of_get rn; omega)
          replace hz := below_next hz hz.size hv
          try (replace kn := keeps hv kn)
          try (replace rn := rn.up hv)
          clear hv
          generalize v7.alloc (.cells #[.slice none 0 0, .int .i64 0, .int .u8 0, .int .u8 0, .int .u8 0, .int .u8 0, .int .u8 0, .int .u8 0, .int .u8 0, .int .u8 0, .int .u8 0, .int .u8 0, .int .u8 0, .int .u8 0, .int .u8 0, .int .u8 0, .int .u8 0, .int .u8 0] 39 (0, 0)) = v8 at *
          generalize v7.heap.size = qn at *
          refine segS_one 7 _ (by decide) rfl (by kernel_rfl) ?_
          intro v9 K2 hv hK
          replace hz := below_next hz hz.size hv
          try (replace kn := keeps hv kn)
          try (replace rn := rn.up hv)
          clear hv
          have hA2 := Lib.hid (hAd.out a (by omega) A1 B1 cA cB rs (fun k => (hP.out k).id) gs ys v9 (hT.out.up (below_next hb hb.size hz)) ((hR1.out _ _ (hR.out.up hb)).up hz) ((hO1.out _ _ _ _ hOu).up hz))
          replace hK := Lib.hid hK
          go_simp
          refine hA2.out.mono ?_
          rintro e vb ⟨gn, rfl, hv, hgn, rn⟩
          refine hK.out _ _ (HeldS.of_below hv) ?_
          try (have hgq : gn ≠ qn := by have := lt_of_get kn; omega)
          clear hK hA2 K2 hgn
          replace hz := below_next hz hz.size hv
          try (replace kn := keeps hv kn)
          try (replace rn := rn.up hv)
          clear hv
          refine segS_batch 2 [8, 9, 10] (by kernel_rfl) rfl (by kernel_rfl) (by kernel_rfl) (by kernel_rfl) ?_
          apply Exists.intro
          refine ⟨fun ι _ φ hφ => ?_, fun v4 hv => ?_⟩
          · repeat (refine pick_step rfl ?_; go_big_quiet_step (fail))
            exact pick_end
          replace hz := below_next hz hz.size hv
          try (replace kn := keeps hv kn)
          try (replace rn := rn.up hv)
          clear hv
          refine segS_one 12 _ (by decide) rfl (by kernel_rfl) ?_
          intro vc K2 hv hK
          replace hz := below_next hz hz.size hv
          try (replace kn := keeps hv kn)
          try (replace rn := rn.up hv)
          clear hv
          replace hK := Lib.hid hK
          obtain ⟨I, hI2⟩ : ∃ I, tot (.slice (some ⟨gn, 0, none⟩) N N) (a : Int) (chkK (fun k => (rs k).ns) a) = I := ⟨_, rfl⟩
          have hIl : I.length = 18 := by rw [← hI2]; exact tot_len _ _ _
          have hone : ∀ u ∈ I, u.oneCell' = true := by rw [← hI2]; exact one_tot _ _
          have hbut : But qn vc (vc.setCells qn 0 I) := (But.refl qn vc).setCells I 0 vc
          have k8n : (vc.setCells qn 0 I).heap[qn]? = some (.cells I.toArray 39 (0, 0)) := by
            rw [heap_setCells _ _ _ _ _ _ _ kn, build_one _ _ (by rw [hIl]; rfl)]
          rw [if_pos (by kernel_rfl)]
          refine wp_store_mid 39 _ _ rfl qn 0 I.toArray rfl (by rw [← hI2]; rfl) (fun j hj => ?_) (by simp only [List.size_toArray, hIl]; exact info_total) (by simpa using hone) (hK.out _ _ ⟨hbut.os, hbut.tape, hbut.output, hbut.size, fun b hb hne => hbut.block b hb (by have : b < wm.heap.size := hne; omega)⟩ ?_)
          · have hj' : j < 18 := by rw [← hIl]; simpa using hj
            simp [World.cell?, World.frozen?, kn]
            exact hj'
          replace hz := hbut.below hz hqz hz.size
          replace rn : Row (vc.setCells qn 0 I) gn _ := (hbut.block _ (lt_of_get rn) hgq).trans rn
          clear hK K2 hbut kn
          have kn := k8n
          clear k8n
          generalize vc.setCells qn 0 I = vd at *
          try rw [put_noneT]
          refine segS_batch 0 [13] (by kernel_rfl) rfl (by kernel_rfl) (by kernel_rfl) (by kernel_rfl) ?_
          apply Exists.intro
          refine ⟨fun ι _ φ hφ => ?_, fun v4 hv => ?_⟩
          · repeat (refine pick_step rfl ?_; go_big_quiet_step (fail))
            exact pick_end
          replace hz := below_next hz hz.size hv
          try (replace kn := keeps hv kn)
          try (replace rn := rn.up hv)
          clear hv
          refine segS_done rfl (by kernel_rfl) ?_
          intro v5 hv
          replace hz := below_next hz hz.size hv
          try (replace kn := keeps hv kn)
          try (replace rn := rn.up hv)
          clear hv
          subst hI2
          go_wp2
          go_meet
          exact ⟨qn, gn, rfl, rfl, hz, kn, rn⟩
    case rest =>
      obtain ⟨q13, g13, rfl, rfl, hv, k13', r13'⟩ := hcut
      clear hcut1 hcut2 hR1 hO1
      replace hb := below_next hb hb.size hv
      try (replace ks := keeps hv ks)
      try (replace kt := keeps hv kt)
      try (replace k8 := keeps hv k8)
      try (replace k10 := keeps hv k10)
      try (replace k13 := keeps hv k13)
      try (replace k15 := keeps hv k15)
      try (replace r8 := r8.up hv)
      try (replace r10 := r10.up hv)
      try (replace r13 := r13.up hv)
      try (replace r15 := r15.up hv)
      try (replace hOu := hOu.up hv)
      clear hv
      have k13 := k13'
      have r13 := r13'
      clear k13' r13'
      go_upto_region 10 with (fail)
      refine name_wp (fun wq => Below w.heap.size w wq ∧ wq.heap[q7]? = some (.cells (tcl x p s).toArray 33 (0, 0)) ∧ wq.heap[q8]? = some (.cells (tot (.slice (some ⟨g8, 0, none⟩) N N) (n : Int) (chkK (fun k => (rs k).ns) n)).toArray 39 (0, 0)) ∧ wq.heap[q10]? = some (.cells (tot (.slice (some ⟨g10, 0, none⟩) N N) (n : Int) (chkK (fun k => (rs k).ns) n)).toArray 39 (0, 0)) ∧ wq.heap[q13]? = some (.cells (tot (.slice (some ⟨g13, 0, none⟩) N N) (a : Int) (chkK (fun k => (rs k).ns) a)).toArray 39 (0, 0)) ∧ Row wq g8 (sumK x.f N (fun k => outL x.f N (ys k)) n) ∧ Row wq g10 (sumK x.f N (fun k => outL x.f N (ys k)) n) ∧ Row wq g13 (sumK x.f N (fun k => outL x.f N (ys k)) a) ∧ OutsAt wq B n N gs (fun k => outL x.f N (ys k))) ⟨hb, kt, k8, k10, k13, r8, r10, r13, hOu⟩ ?_
      clear hb kt k8 k10 k13 r8 r10 r13 hOu
      rintro wm ⟨hb, kt, k8, k10, k13, r8, r10, r13, hOu⟩
      obtain ⟨A2, hcut1, hR1⟩ := cut_repsL A n cA a han hcA
      obtain ⟨B2, hcut2, hO1⟩ := cut_outsL B n cB a han hnB.out
      replace hR1 := Lib.hid hR1
      replace hO1 := Lib.hid hO1
      have hwq : q7 < wm.heap.size := lt_of_get kt
      go_cut [15, 16] (fun v u w' => ∃ q15 g15, v = .pointer (some ⟨q15, 0, none⟩) ∧ u = .int .i64 0 ∧ Below wm.heap.size wm w' ∧ w'.heap[q15]? = some (.cells (tot (.slice (some ⟨g15, 0, none⟩) N N) ((n - a : Nat) : Int) (chkK (fun k => (rs (a + k)).ns) (n - a))).toArray 39 (0, 0)) ∧ Row w' g15 (sumK x.f N (fun k => outL x.f N (ys (a + k))) (n - a)))
      case first =>
        as_aux_lemma =>
          have hz := Below.refl wm.heap.size wm
          refine segS_start (gb := fun k => k < wm.heap.size) 14 (by kernel_rfl) (by decide) ?_
          intro v0 hv
          replace hz := below_next hz hz.size hv
          try (replace kn := keeps hv kn)
          try (replace rn := rn.up hv)
          clear hv
          have ktz := keeps hz kt
          refine segS_batch 7 [0, 1, 2, 3, 4, 5, 6] (by kernel_rfl) rfl (by kernel_rfl) (by kernel_rfl) (by kernel_rfl) ?_
          apply Exists.intro
          refine ⟨fun ι _ φ hφ => ?_, fun v1 hv => ?_⟩
          · repeat (refine pick_step rfl ?_; first
              | (refine quiet_load_mid _ _ _ 0 _ _ rfl rfl rfl (mid_familyT hφ (At0.of_block ktz) hwq) Tryd.underlying33 rfl (by kernel_rfl) ?_; simp only [Act.put, List.setIfInBounds_toArray, List.set_cons_succ, List.set_cons_zero])
              | go_big_quiet_step (fail))
            exact pick_end
          replace hz := below_next hz hz.size hv
          try (replace kn := keeps hv kn)
          try (replace rn := rn.up hv)
          clear hv
          clear ktz
          refine segS_more [7, 11] (by kernel_rfl) (by decide) ?_
          intro j hj
          simp only [List.mem_cons, List.not_mem_nil, or_false] at hj
          rcases hj with rfl | rfl
          · refine ⟨by decide, _, rfl, ?_⟩
            intro v9 K2 hv hK
            replace hz := below_next hz hz.size hv
            try (replace kn := keeps hv kn)
            try (replace rn := rn.up hv)
            clear hv
            have hA2 := Lib.hid (hAd.out (n - a) (by omega) A2 B2 (cA - a) (cB - a) (fun k => rs (a + k)) (fun k => (hP.out (a + k)).id) (fun k => gs (a + k)) (fun k => ys (a + k)) v9 (hT.out.up (below_next hb hb.size hz)) ((hR1.out _ _ (hR.out.up hb)).up hz) ((hO1.out _ _ _ _ hOu).up hz))
            replace hK := Lib.hid hK
            go_simp
            refine hA2.out.mono ?_
            rintro e vb ⟨gn, rfl, hv, hgn, rn⟩
            refine hK.out _ _ (HeldS.of_below hv) ?_
            try (have hgq : gn ≠ qn := by have := lt_of_get kn; omega)
            clear hK hA2 K2 hgn
            replace hz := below_next hz hz.size hv
            try (replace kn := keeps hv kn)
            try (replace rn := rn.up hv)
            clear hv
            refine segS_batch 3 [8, 9, 10] (by kernel_rfl) rfl (by kernel_rfl) (by kernel_rfl) (by kernel_rfl) ?_
            apply Exists.intro
            refine ⟨fun ι _ φ hφ => ?_, fun v4 hv => ?_⟩
            · repeat (refine pick_step rfl ?_; go_big_quiet_step (fail))
              exact pick_end
            replace hz := below_next hz hz.size hv
            try (replace kn := keeps hv kn)
            try (replace rn := rn.up hv)
            clear hv
            refine segS_one 11 _ (by decide) rfl (by kernel_rfl) ?_
            intro v7 K2 hv hK
            replace hz := below_next hz hz.size hv
            try (replace kn := keeps hv kn)
            try (replace rn := rn.up hv)
            clear hv
            replace hK := Lib.hid hK
            go_simp
            have hv := (Below.refl v7.heap.size v7).alloc (Nat.le_refl _) (.cells #[.slice none 0 0, .int .i64 0, .int .u8 0, .int .u8 0, .int .u8 0, .int .u8 0, .int .u8 0, .int .u8 0, .int .u8 0, .int .u8 0, .int .u8 0, .int .u8 0, .int .u8 0, .int .u8 0, .int .u8 0, .int .u8 0, .int .u8 0, .int .u8 0] 39 (0, 0))
            refine hK.out _ _ (HeldS.of_below hv) ?_
            clear hK K2
            have kn : (v7.alloc (.cells #[.slice none 0 0, .int .i64 0, .int .u8 0, .int .u8 0, .int .u8 0, .int .u8 0, .int .u8 0, .int .u8 0, .int .u8 0, .int .u8 0, .int .u8 0, .int .u8 0, .int .u8 0, .int .u8 0, .int .u8 0, .int .u8 0, .int .u8 0, .int .u8 0] 39 (0, 0))).heap[v7.heap.size]? = some (.cells noTot.toArray 39 (0, 0)) := alloc_at rfl
            have hqz : wm.heap.size ≤ v7.heap.size := hz.size
            try (have hgq : gn ≠ v7.heap.size := by have := lt_of_get rn; omega)
            replace hz := below_next hz hz.size hv
            try (replace kn := keeps hv kn)
            try (replace rn := rn.up hv)
            clear hv
            generalize v7.alloc (.cells #[.slice none 0 0, .int .i64 0, .int .u8 0, .int .u8 0, .int .u8 0, .int .u8 0, .int .u8 0, .int .u8 0, .int .u8 0, .int .u8 0, .int .u8 0, .int .u8 0, .int .u8 0, .int .u8 0, .int .u8 0, .int .u8 0, .int .u8 0, .int .u8 0] 39 (0, 0)) = v8 at *
            generalize v7.heap.size = qn at *
            refine segS_one 12 _ (by decide) rfl (by kernel_rfl) ?_
            intro vc K2 hv hK
            replace hz := below_next hz hz.size hv
            try (replace kn := keeps hv kn)
            try (replace rn := rn.up hv)
            clear hv
            replace hK := Lib.hid hK
            obtain ⟨I, hI2⟩ : ∃ I, tot (.slice (some ⟨gn, 0, none⟩) N N) ((n - a : Nat) : Int) (chkK (fun k => (rs (a + k)).ns) (n - a)) = I := ⟨_, rfl⟩
            have hIl : I.length = 18 := by rw [← hI2]; exact tot_len _ _ _
            have hone : ∀ u ∈ I, u.oneCell' = true := by rw [← hI2]; exact one_tot _ _
            have hbut : But qn vc (vc.setCells qn 0 I) := (But.refl qn vc).setCells I 0 vc
            have k8n : (vc.setCells qn 0 I).heap[qn]? = some (.cells I.toArray 39 (0, 0)) := by
              rw [heap_setCells _ _ _ _ _ _ _ kn, build_one _ _ (by rw [hIl]; rfl)]
            rw [if_pos (by kernel_rfl)]
            refine wp_store_mid 39 _ _ rfl qn 0 I.toArray rfl (by rw [← hI2]; rfl) (fun j hj => ?_) (by simp only [List.size_toArray, hIl]; exact info_total) (by simpa using hone) (hK.out _ _ ⟨hbut.os, hbut.tape, hbut.output, hbut.size, fun b hb hne => hbut.block b hb (by have : b < wm.heap.size := hne; omega)⟩ ?_)
            · have hj' : j < 18 := by rw [← hIl]; simpa using hj
              simp [World.cell?, World.frozen?, kn]
              exact hj'
            replace hz := hbut.below hz hqz hz.size
            replace rn : Row (vc.setCells qn 0 I) gn _ := (hbut.block _ (lt_of_get rn) hgq).trans rn
            clear hK K2 hbut kn
            have kn := k8n
            clear k8n
            generalize vc.setCells qn 0 I = vd at *
            try rw [put_noneT]
            refine segS_batch 0 [13] (by kernel_rfl) rfl (by kernel_rfl) (by kernel_rfl) (by kernel_rfl) ?_
            apply Exists.intro
            refine ⟨fun ι _ φ hφ => ?_, fun v4 hv => ?_⟩
            · repeat (refine pick_step rfl ?_; go_big_quiet_step (fail))
              exact pick_end
            replace hz := below_next hz hz.size hv
            try (replace kn := keeps hv kn)
            try (replace rn := rn.up hv)
            clear hv
            refine segS_done rfl (by kernel_rfl) ?_
            intro v5 hv
            replace hz := below_next hz hz.size hv
            try (replace kn := keeps hv kn)
            try (replace rn := rn.up hv)
            clear hv
            subst hI2
            go_wp2
            go_meet
            exact ⟨qn, gn, rfl, rfl, hz, kn, rn⟩
          · refine ⟨by decide, _, rfl, ?_⟩
            intro v7 K2 hv hK
            replace hz := below_next hz hz.size hv
            try (replace kn := keeps hv kn)
            try (replace rn := rn.up hv)
            clear hv
            replace hK := Lib.hid hK
            go_simp
            have hv := (Below.refl v7.heap.size v7).alloc (Nat.le_refl _) (.cells #[.slice none 0 0, .int .i64 0, .int .u8 0, .int .u8 0, .int .u8 0, .int .u8 0, .int .u8 0, .int .u8 0, .int .u8 0, .int .u8 0, .int .u8 0, .int .u8 0, .int .u8 0, .int .u8 0, .int .u8 0, .int .u8 0, .int .u8 0, .int .u8 0] 39 (0, 0))
            refine hK.out _ _ (HeldS.of_below hv) ?_
            clear hK K2
            have kn : (v7.alloc (.cells #[.slice none 0 0, .int .i64 0, .int .u8 0, .int .u8 0, .int .u8 0, .int .u8 0, .int .u8 0, .int .u8 0, .int .u8 0, .int .u8 0, .int .u8 0, .int .u8 0, .int .u8 0, .int .u8 0, .int .u8 0, .int .u8 0, .int .u8 0, .int .u8 0] 39 (0, 0))).heap[v7.heap.size]? = some (.cells noTot.toArray 39 (0, 0)) := alloc_at rfl
            have hqz : wm.heap.size ≤ v7.heap.size := hz.size
            try (have hgq : gn ≠ v7.heap.size := by have := lt_of_get rn; omega)
            replace hz := below_next hz hz.size hv
            try (replace kn := keeps hv kn)
            try (replace rn := rn.up hv)
            clear hv
            generalize v7.alloc (.cells #[.slice none 0 0, .int .i64 0, .int .u8 0, .int .u8 0, .int .u8 0, .int .u8 0, .int .u8 0, .int .u8 0, .int .u8 0, .int .u8 0, .int .u8 0, .int .u8 0, .int .u8 0, .int .u8 0, .int .u8 0, .int .u8 0, .int .u8 0, .int .u8 0] 39 (0, 0)) = v8 at *
            generalize v7.heap.size = qn at *
            refine segS_one 7 _ (by decide) rfl (by kernel_rfl) ?_
            intro v9 K2 hv hK
            replace hz := below_next hz hz.size hv
            try (replace kn := keeps hv kn)
            try (replace rn := rn.up hv)
            clear hv
            have hA2 := Lib.hid (hAd.out (n - a) (by omega) A2 B2 (cA - a) (cB - a) (fun k => rs (a + k)) (fun k => (hP.out (a + k)).id) (fun k => gs (a + k)) (fun k => ys (a + k)) v9 (hT.out.up (below_next hb hb.size hz)) ((hR1.out _ _ (hR.out.up hb)).up hz) ((hO1.out _ _ _ _ hOu).up hz))
            replace hK := Lib.hid hK
            go_simp
            refine hA2.out.mono ?_
            rintro e vb ⟨gn, rfl, hv, hgn, rn⟩
            refine hK.out _ _ (HeldS.of_below hv) ?_
            try (have hgq : gn ≠ qn := by have := lt_of_get kn; omega)
            clear hK hA2 K2 hgn
            replace hz := below_next hz hz.size hv
            try (replace kn := keeps hv kn)
            try (replace rn := rn.up hv)
            clear hv
            refine segS_batch 2 [8, 9, 10] (by kernel_rfl) rfl (by kernel_rfl) (by kernel_rfl) (by kernel_rfl) ?_
            apply Exists.intro
            refine ⟨fun ι _ φ hφ => ?_, fun v4 hv => ?_⟩
            · repeat (refine pick_step rfl ?_; go_big_quiet_step (fail))
              exact pick_end
            replace hz := below_next hz hz.size hv
            try (replace kn := keeps hv kn)
            try (replace rn := rn.up hv)
            clear hv
            refine segS_one 12 _ (by decide) rfl (by kernel_rfl) ?_
            intro vc K2 hv hK
            replace hz := below_next hz hz.size hv
            try (replace kn := keeps hv kn)
            try (replace rn := rn.up hv)
            clear hv
            replace hK := Lib.hid hK
            obtain ⟨I, hI2⟩ : ∃ I, tot (.slice (some ⟨gn, 0, none⟩) N N) ((n - a : Nat) : Int) (chkK (fun k => (rs (a + k)).ns) (n - a)) = I := ⟨_, rfl⟩
            have hIl : I.length = 18 := by rw [← hI2]; exact tot_len _ _ _
            have hone : ∀ u ∈ I, u.oneCell' = true := by rw [← hI2]; exact one_tot _ _
            have hbut : But qn vc (vc.setCells qn 0 I) := (But.refl qn vc).setCells I 0 vc
            have k8n : (vc.setCells qn 0 I).heap[qn]? = some (.cells I.toArray 39 (0, 0)) := by
              rw [heap_setCells _ _ _ _ _ _ _ kn, build_one _ _ (by rw [hIl]; rfl)]
            rw [if_pos (by kernel_rfl)]
            refine wp_store_mid 39 _ _ rfl qn 0 I.toArray rfl (by rw [← hI2]; rfl) (fun j hj => ?_) (by simp only [List.size_toArray, hIl]; exact info_total) (by simpa using hone) (hK.out _ _ ⟨hbut.os, hbut.tape, hbut.output, hbut.size, fun b hb hne => hbut.block b hb (by have : b < wm.heap.size := hne; omega)⟩ ?_)
            · have hj' : j < 18 := by rw [← hIl]; simpa using hj
              simp [World.cell?, World.frozen?, kn]
              exact hj'
            replace hz := hbut.below hz hqz hz.size
            replace rn : Row (vc.setCells qn 0 I) gn _ := (hbut.block _ (lt_of_get rn) hgq).trans rn
            clear hK K2 hbut kn
            have kn := k8n
            clear k8n
            generalize vc.setCells qn 0 I = vd at *
            try rw [put_noneT]
            refine segS_batch 0 [13] (by kernel_rfl) rfl (by kernel_rfl) (by kernel_rfl) (by kernel_rfl) ?_
            apply Exists.intro
            refine ⟨fun ι _ φ hφ => ?_, fun v4 hv => ?_⟩
            · repeat (refine pick_step rfl ?_; go_big_quiet_step (fail))
              exact pick_end
            replace hz := below_next hz hz.size hv
            try (replace kn := keeps hv kn)
            try (replace rn := rn.up hv)
            clear hv
            refine segS_done rfl (by kernel_rfl) ?_
            intro v5 hv
            replace hz := below_next hz hz.size hv
            try (replace kn := keeps hv kn)
            try (replace rn := rn.up hv)
            clear hv
            subst hI2
            go_wp2
            go_meet
            exact ⟨qn, gn, rfl, rfl, hz, kn, rn⟩
      case rest =>
        obtain ⟨q15, g15, rfl, rfl, hv, k15', r15'⟩ := hcut
        clear hcut1 hcut2 hR1 hO1
        replace hb := below_next hb hb.size hv
        try (replace ks := keeps hv ks)
        try (replace kt := keeps hv kt)
        try (replace k8 := keeps hv k8)
        try (replace k10 := keeps hv k10)
        try (replace k13 := keeps hv k13)
        try (replace k15 := keeps hv k15)
        try (replace r8 := r8.up hv)
        try (replace r10 := r10.up hv)
        try (replace r13 := r13.up hv)
        try (replace r15 := r15.up hv)
        try (replace hOu := hOu.up hv)
        clear hv
        have k15 := k15'
        have r15 := r15'
        clear k15' r15'
        have hM1 := Lib.hid (fun w hr1 hr2 => hMe.out w a (n - a) (by omega) g13 g15 rs (fun k => rs (a + k)) ys (fun k => ys (a + k)) hr1 hr2)
        have hM2 := Lib.hid (fun w hr1 hr2 => hMe.out w (n - a) a (by omega) g15 g13 (fun k => rs (a + k)) rs (fun k => ys (a + k)) ys hr1 hr2)
        rw [zip_comm (sumK_len (fun k => outL_len _ _ _) (n - a)) (sumK_len (fun k => outL_len _ _ _) a), xorF_commT (chkK (fun k => (rs (a + k)).ns) (n - a)) (chkK (fun k => (rs k).ns) a)] at hM2
        rw [sumK_split (ys := fun k => outL x.f N (ys k)) (fun k => outL_len _ _ _) a (n - a), chkK_split (ns := fun k => (rs k).ns) a (n - a), show a + (n - a) = n by omega] at hM1 hM2
        rw [show (a : Int) + ((n - a : Nat) : Int) = (n : Int) by omega] at hM1
        rw [show ((n - a : Nat) : Int) + (a : Int) = (n : Int) by omega] at hM2
        unfold totv at hM1 hM2
        clear hMe hAd
        go_upto_region 11 with (fail)
        refine name_wp (fun wq => Below w.heap.size w wq ∧ wq.heap[q7]? = some (.cells (tcl x p s).toArray 33 (0, 0)) ∧ wq.heap[q8]? = some (.cells (tot (.slice (some ⟨g8, 0, none⟩) N N) (n : Int) (chkK (fun k => (rs k).ns) n)).toArray 39 (0, 0)) ∧ wq.heap[q10]? = some (.cells (tot (.slice (some ⟨g10, 0, none⟩) N N) (n : Int) (chkK (fun k => (rs k).ns) n)).toArray 39 (0, 0)) ∧ wq.heap[q13]? = some (.cells (tot (.slice (some ⟨g13, 0, none⟩) N N) (a : Int) (chkK (fun k => (rs k).ns) a)).toArray 39 (0, 0)) ∧ wq.heap[q15]? = some (.cells (tot (.slice (some ⟨g15, 0, none⟩) N N) ((n - a : Nat) : Int) (chkK (fun k => (rs (a + k)).ns) (n - a))).toArray 39 (0, 0)) ∧ Row wq g8 (sumK x.f N (fun k => outL x.f N (ys k)) n) ∧ Row wq g10 (sumK x.f N (fun k => outL x.f N (ys k)) n) ∧ Row wq g13 (sumK x.f N (fun k => outL x.f N (ys k)) a) ∧ Row wq g15 (sumK x.f N (fun k => outL x.f N (ys (a + k))) (n - a))) ⟨hb, kt, k8, k10, k13, k15, r8, r10, r13, r15⟩ ?_
        clear hb kt k8 k10 k13 k15 r8 r10 r13 r15 hOu
        rintro wm ⟨hb, kt, k8, k10, k13, k15, r8, r10, r13, r15⟩
        go_wp2_with (first
          | (refine list_load_mid _ _ _ 0 _ _ rfl rfl rfl (At0.of_block kt) Tryd.underlying33 rfl (by kernel_rfl) ?_)
          | (refine list_load_mid _ _ _ 0 _ _ rfl rfl rfl (At0.of_block k13) Tryd.underlying39 rfl (by rw [tot_len]; kernel_rfl) ?_)
          | (refine list_load_mid _ _ _ 0 _ _ rfl rfl rfl (At0.of_block k15) Tryd.underlying39 rfl (by rw [tot_len]; kernel_rfl) ?_))
        refine (hM1.out _ r13 r15).mono ?_
        rintro e w5 ⟨g17, rfl, hv, hg17, r17⟩
        clear hg17
        replace hb := below_next hb hb.size hv
        try (replace ks := keeps hv ks)
        try (replace kt := keeps hv kt)
        try (replace k8 := keeps hv k8)
        try (replace k10 := keeps hv k10)
        try (replace k13 := keeps hv k13)
        try (replace k15 := keeps hv k15)
        try (replace r8 := r8.up hv)
        try (replace r10 := r10.up hv)
        try (replace r13 := r13.up hv)
        try (replace r15 := r15.up hv)
        try (replace hOu := hOu.up hv)
        clear hv
        have hone := Lib.hid (one_tot (A := some ⟨g17, 0, none⟩) (n := N) (cp := N) (n : Int) (chkK (fun k => (rs k).ns) n))
        go_upto_region 12 with (first
          | (refine list_store_whole _ _ _ _ (tot (.slice (some ⟨g17, 0, none⟩) N N) (n : Int) (chkK (fun k => (rs k).ns) n)) noTot 39 rfl rfl rfl rfl (alloc_at rfl) rfl (by kernel_rfl) hone.out ?_; intro wm hbut k17))
        have hv := hbut.below ((Below.refl w5.heap.size w5).alloc (Nat.le_refl _) (.cells noTot.toArray 39 (0, 0))) (Nat.le_refl _) (by simp)
        clear hbut hone
        replace r17 := r17.up hv
        replace hb := below_next hb hb.size hv
        try (replace ks := keeps hv ks)
        try (replace kt := keeps hv kt)
        try (replace k8 := keeps hv k8)
        try (replace k10 := keeps hv k10)
        try (replace k13 := keeps hv k13)
        try (replace k15 := keeps hv k15)
        try (replace r8 := r8.up hv)
        try (replace r10 := r10.up hv)
        try (replace r13 := r13.up hv)
        try (replace r15 := r15.up hv)
        try (replace hOu := hOu.up hv)
        clear hv
        generalize w5.heap.size = q17 at *
        clear w5
        go_wp2_with (first
          | (refine list_load_mid _ _ _ 0 _ _ rfl rfl rfl (At0.of_block kt) Tryd.underlying33 rfl (by kernel_rfl) ?_)
          | (refine list_load_mid _ _ _ 0 _ _ rfl rfl rfl (At0.of_block k13) Tryd.underlying39 rfl (by rw [tot_len]; kernel_rfl) ?_)
          | (refine list_load_mid _ _ _ 0 _ _ rfl rfl rfl (At0.of_block k15) Tryd.underlying39 rfl (by rw [tot_len]; kernel_rfl) ?_))
        refine (hM2.out _ r15 r13).mono ?_
        rintro e w5 ⟨g19, rfl, hv, hg19, r19⟩
        clear hg19
        replace k17 := keeps hv k17
        replace r17 := r17.up hv
        replace hb := below_next hb hb.size hv
        try (replace ks := keeps hv ks)
        try (replace kt := keeps hv kt)
        try (replace k8 := keeps hv k8)
        try (replace k10 := keeps hv k10)
        try (replace k13 := keeps hv k13)
        try (replace k15 := keeps hv k15)
        try (replace r8 := r8.up hv)
        try (replace r10 := r10.up hv)
        try (replace r13 := r13.up hv)
        try (replace r15 := r15.up hv)
        try (replace hOu := hOu.up hv)
        clear hv
        have hone := Lib.hid (one_tot (A := some ⟨g19, 0, none⟩) (n := N) (cp := N) (n : Int) (chkK (fun k => (rs k).ns) n))
        go_upto_region 15 with (first
          | (refine list_store_whole _ _ _ _ (tot (.slice (some ⟨g19, 0, none⟩) N N) (n : Int) (chkK (fun k => (rs k).ns) n)) noTot 39 rfl rfl rfl rfl (alloc_at rfl) rfl (by kernel_rfl) hone.out ?_; intro wm hbut k19))
        have hv := hbut.below ((Below.refl w5.heap.size w5).alloc (Nat.le_refl _) (.cells noTot.toArray 39 (0, 0))) (Nat.le_refl _) (by simp)
        clear hbut hone
        replace k17 := keeps hv k17
        replace r17 := r17.up hv
        replace r19 := r19.up hv
        replace hb := below_next hb hb.size hv
        try (replace ks := keeps hv ks)
        try (replace kt := keeps hv kt)
        try (replace k8 := keeps hv k8)
        try (replace k10 := keeps hv k10)
        try (replace k13 := keeps hv k13)
        try (replace k15 := keeps hv k15)
        try (replace r8 := r8.up hv)
        try (replace r10 := r10.up hv)
        try (replace r13 := r13.up hv)
        try (replace r15 := r15.up hv)
        try (replace hOu := hOu.up hv)
        clear hv
        generalize w5.heap.size = q19 at *
        have hSl : (sumK x.f N (fun k => outL x.f N (ys k)) n).length = N := sumK_len (fun k => outL_len _ _ _) n
        have hWi := Lib.hid (fun w => with_ok (chkK (fun k => (rs k).ns) a) (chkK (fun k => (rs (a + k)).ns) (n - a)) (chkK_lim _ _) (chkK_lim _ _) w)
        rw [chkK_split (ns := fun k => (rs k).ns) a (n - a), show a + (n - a) = n by omega] at hWi
        have hsc := sameC_refl (chkK (fun k => (rs k).ns) n)
        have z13 := sub_range (At0.of_block k13) 2 (arr8 (chkK (fun k => (rs k).ns) a) 16) (tot_chk _ _ _)
        have z15 := sub_range (At0.of_block k15) 2 (arr8 (chkK (fun k => (rs (a + k)).ns) (n - a)) 16) (tot_chk _ _ _)
        have z8 := sub_range (At0.of_block k8) 2 (arr8 (chkK (fun k => (rs k).ns) n) 16) (tot_chk _ _ _)
        have hL1 := Lib.hid (fun w e1 e2 => tsame_tot _ (some ⟨g10, 0, none⟩) (some ⟨g8, 0, none⟩) N N N hSl (by omega) (n : Int) (chkK (fun k => (rs k).ns) n) w e1 e2)
        have hL2 := Lib.hid (fun w e1 e2 => tsame_tot _ (some ⟨g17, 0, none⟩) (some ⟨g8, 0, none⟩) N N N hSl (by omega) (n : Int) (chkK (fun k => (rs k).ns) n) w e1 e2)
        have hL3 := Lib.hid (fun w e1 e2 => tsame_tot _ (some ⟨g19, 0, none⟩) (some ⟨g8, 0, none⟩) N N N hSl (by omega) (n : Int) (chkK (fun k => (rs k).ns) n) w e1 e2)
        have hL4 := Lib.hid (fun w e1 e2 => lsame_tot _ (some ⟨g10, 0, none⟩) (some ⟨g8, 0, none⟩) N N N hSl (by omega) (n : Int) (chkK (fun k => (rs k).ns) n) w e1 e2)
        refine wp_region_flow0 (by kernel_rfl) (by kernel_rfl) ?_
        intro ι _ φ hφ
        have e8 := Lib.hid (fun i => (r8.up (hφ.old i)).elems)
        have e10 := Lib.hid (fun i => (r10.up (hφ.old i)).elems)
        have e17 := Lib.hid (fun i => (r17.up (hφ.old i)).elems)
        have e19 := Lib.hid (fun i => (r19.up (hφ.old i)).elems)
        clear hM1 hM2 r8 r10 r13 r15 r17 r19
        repeat (first
          | (refine quiet_load_mid _ _ _ 0 _ _ rfl rfl rfl (mid_family hφ (At0.of_block k8)) Tryd.underlying39 rfl (by rw [tot_len]; kernel_rfl) ?_; simp only [Act.put, List.setIfInBounds_toArray, List.set_cons_succ, List.set_cons_zero])
          | (refine quiet_load_mid _ _ _ 0 _ _ rfl rfl rfl (mid_family hφ (At0.of_block k10)) Tryd.underlying39 rfl (by rw [tot_len]; kernel_rfl) ?_; simp only [Act.put, List.setIfInBounds_toArray, List.set_cons_succ, List.set_cons_zero])
          | (refine quiet_load_mid _ _ _ 0 _ _ rfl rfl rfl (mid_family hφ (At0.of_block k17)) Tryd.underlying39 rfl (by rw [tot_len]; kernel_rfl) ?_; simp only [Act.put, List.setIfInBounds_toArray, List.set_cons_succ, List.set_cons_zero])
          | (refine quiet_load_mid _ _ _ 0 _ _ rfl rfl rfl (mid_family hφ (At0.of_block k19)) Tryd.underlying39 rfl (by rw [tot_len]; kernel_rfl) ?_; simp only [Act.put, List.setIfInBounds_toArray, List.set_cons_succ, List.set_cons_zero])
          | (refine quiet_load_mid _ _ _ 2 _ _ rfl rfl rfl (mid_family hφ z13) Tryd.underlying37 rfl (by rw [arr8_len]; kernel_rfl) ?_; simp only [Act.put, List.setIfInBounds_toArray, List.set_cons_succ, List.set_cons_zero])
          | (refine quiet_load_mid _ _ _ 2 _ _ rfl rfl rfl (mid_family hφ z15) Tryd.underlying37 rfl (by rw [arr8_len]; kernel_rfl) ?_; simp only [Act.put, List.setIfInBounds_toArray, List.set_cons_succ, List.set_cons_zero])
          | (refine quiet_load_mid _ _ _ 2 _ _ rfl rfl rfl (mid_family hφ z8) Tryd.underlying37 rfl (by rw [arr8_len]; kernel_rfl) ?_; simp only [Act.put, List.setIfInBounds_toArray, List.set_cons_succ, List.set_cons_zero])
          | go_big_quiet_step ((first
              | (go_at_call 16; with_reducible exact flow_call hφ (hL1.out _ (e10.out _) (e8.out _)))
              | (go_at_call 16; with_reducible exact flow_call hφ (hL2.out _ (e17.out _) (e8.out _)))
              | (go_at_call 16; with_reducible exact flow_call hφ (hL3.out _ (e19.out _) (e8.out _)))
              | (go_at_call 18; with_reducible exact flow_call hφ (hL4.out _ (e10.out _) (e8.out _)))
              | (go_at_call 17; exact flow_call hφ (hWi.out _)))))
        refine wpQuiet_nil ?_
        intro wz hv
        replace hb := below_next hb hb.size hv
        clear hv
        go_wp2
        go_ret
        exact ⟨rfl, hb⟩
  · have n0 : decide ((n : Int) > 20) = true := by simp; omega
    go_wp2
    go_ret
    exact ⟨rfl, hb⟩
end Go.Proofs.YtpojhomccmfffaaDoor
