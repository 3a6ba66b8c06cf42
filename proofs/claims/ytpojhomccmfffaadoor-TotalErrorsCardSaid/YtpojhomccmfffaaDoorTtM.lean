/-
  TotalErrors: its walk.
-/
import Derived.Test.YtpojhomccmfffaaDoorTtL
namespace Go.Proofs.YtpojhomccmfffaaDoor
open Go.RowKit Flow F
set_option linter.unusedVariables false
set_option linter.unusedSimpArgs false

theorem few_one (m1 : Int) : few m1 1 = (!decide (m1 < 0) && !decide (m1 ≥ 256)) := by
  unfold few
  by_cases h1 : m1 < 0
  · simp [h1]
  · by_cases h2 : m1 ≥ 256
    · have h3 : m1 > 256 ∨ 1 > 256 - m1 := by omega
      rcases h3 with h3 | h3 <;> simp [h1, h2, h3]
    · have h3 : ¬ m1 > 256 := by omega
      have h4 : ¬ (1 > 256 - m1) := by omega
      simp [h1, h2, h3, h4]
theorem few_two (m1 m2 : Int) : few m1 m2 = (!decide (m1 < 0) && !decide (m2 < 0) && !decide (m1 > 256) && !decide (m2 > 256) && !decide (m1 + m2 > 256)) := by
  unfold few
  by_cases h1 : m1 < 0
  · simp [h1]
  · by_cases h2 : m2 < 0
    · simp [h1, h2]
    · by_cases h3 : m1 > 256
      · simp [h1, h2, h3]
      · by_cases h4 : m2 > 256 - m1
        · have h5 : m2 > 256 ∨ m1 + m2 > 256 := by omega
          rcases h5 with h5 | h5 <;> simp [h1, h2, h3, h4, h5]
        · have h5 : ¬ m2 > 256 := by omega
          have h6 : ¬ m1 + m2 > 256 := by omega
          simp [h1, h2, h3, h4, h5, h6]
set_option maxRecDepth 20000 in
set_option maxHeartbeats 8000000 in
theorem errors_walk (x : Ci) (p : Int) (s : ByteArray) (hs : (s.size : Int) ≤ 9223372036854775807) (K F' B L W' C P T : Int) (k0 : 0 ≤ K) (k1 : K ≤ 255) (f0 : 0 ≤ F') (f1 : F' ≤ 255) (b0 : 0 ≤ B) (b1 : B ≤ 255) (l0 : 0 ≤ L) (l1 : L ≤ 255) (w0 : 0 ≤ W') (w1 : W' ≤ 255) (c0 : 0 ≤ C) (c1 : C ≤ 255) (p0 : 0 ≤ P) (p1 : P ≤ 255) (t0 : 0 ≤ T) (t1 : T ≤ 255)
    (A1 A2 : Option Addr) (n1 n2 d1 d2 : Nat) (m1 m2 : Int) (g1 g2 : Nat → Nat) (hn1 : n1 ≤ maxLen) (hn2 : n2 ≤ maxLen) (hg1 : Lim8 g1) (hg2 : Lim8 g2) (ns : List Nat) (hns : IdOK ns) (w : World) (hT : Tabs w) :
    Calls Tryd.prog 6 #[.agg (tcl x p s).toArray, .agg (s13 K F' B L W' C P T).toArray, .agg (tot (.slice A1 n1 d1) m1 g1).toArray, .agg (tot (.slice A2 n2 d2) m2 g2).toArray, .agg (idc ns).toArray] w fun e w' => e = .returned (.bool true) ∧ Below w.heap.size w w' := by
  have hS := fun w => task_any K F' B L W' C P T k0 k1 f0 f1 b0 b1 l0 l1 w0 w1 c0 c1 p0 p1 t0 t1 w
  have hgd := task_good K F' B L W' C P T p0
  unfold tvl at hS
  generalize smallC K F' B L W' C = y at *
  generalize 1 + P % 3 = q at *
  generalize tagB (T % 3) = r at *
  clear k0 k1 f0 f1 b0 b1 l0 l1 w0 w1 c0 c1 p0 p1 t0 t1
  unfold maxLen at hn1 hn2
  have hil := Lib.hid (idc_len hns)
  have hone := Lib.hid (one_tot (A := none) (n := 0) (cp := 0) 0 (fun _ => 0))
  replace hS := Lib.hid hS
  replace hT := Lib.hid hT
  replace hgd := Lib.hid hgd
  have hC := fun w => (tcheck_any x p s hs w : Calls Tryd.prog 31 #[.agg (tcl x p s).toArray] w _)
  go_enter Tryd.func6, Tryd.ntmps6
  go_upto_region 1 with (fail)
  refine name_wp (fun w1 => TE w (tcl x p s) (s13 K F' B L W' C P T) (tot (.slice A1 n1 d1) m1 g1) (tot (.slice A2 n2 d2) m2 g2) (idc ns) w1)
    ⟨(((((Below.refl _ _).alloc (Nat.le_refl _) _).alloc (by simp) _).alloc (by simp; omega) _).alloc (by simp; omega) _).alloc (by simp; omega) _, alloc_keeps (alloc_keeps (alloc_keeps (alloc_keeps (alloc_at rfl)))), alloc_keeps (alloc_keeps (alloc_keeps (alloc_at (by simp)))), alloc_keeps (alloc_keeps (alloc_at (by simp))), alloc_keeps (alloc_at (by simp)), alloc_at (by simp)⟩ ?_
  intro w1 h
  have hA1 := Lib.hid (tawake_ok w1 (hT.out.up h.hb))
  go_wp2_with fail
  refine call_then (hA1.out) ?_
  intro wn hv
  replace h := h.up hv
  clear hv
  clear hA1
  have q1 := At0.of_block h.kx 0 (.slice A1 n1 d1) rfl
  have q2 := At0.of_block h.ky 0 (.slice A2 n2 d2) rfl
  simp only [Nat.zero_add] at q1 q2
  by_cases hbig1 : 40 < n1
  · have b1 : decide ((n1 : Int) > 40) = true := by rw [decide_eq_true_eq]; omega
    go_wp2
    go_ret
    exact ⟨rfl, h.hb⟩
  have b1 : decide ((n1 : Int) > 40) = false := by rw [decide_eq_false_iff_not]; omega
  by_cases hbig2 : 40 < n2
  · have b2 : decide ((n2 : Int) > 40) = true := by rw [decide_eq_true_eq]; omega
    go_wp2
    go_ret
    exact ⟨rfl, h.hb⟩
  have b2 : decide ((n2 : Int) > 40) = false := by rw [decide_eq_false_iff_not]; omega
  replace hC := Lib.hid hC
  go_wp2_with (first
    | (refine list_load_mid _ _ _ 0 _ _ rfl rfl rfl (At0.of_block h.kt) Tryd.underlying33 rfl (by kernel_rfl) ?_)
    | (refine list_load_mid _ _ _ 0 _ _ rfl rfl rfl (At0.of_block h.kx) Tryd.underlying39 rfl (by rw [tot_len]; kernel_rfl) ?_)
    | (refine list_load_mid _ _ _ 0 _ _ rfl rfl rfl (At0.of_block h.ky) Tryd.underlying39 rfl (by rw [tot_len]; kernel_rfl) ?_)
    | (refine list_load_mid _ _ _ 0 _ _ rfl rfl rfl (At0.of_block h.ki) Tryd.underlying51 rfl (by rw [hil.out]; kernel_rfl) ?_)
    | (refine list_load_mid _ _ _ 0 _ _ rfl rfl rfl (At0.of_block h.ks) Tryd.underlying25 rfl (by kernel_rfl) ?_))
  clear q1 q2
  refine call_then (hC.out _) ?_
  intro wn hv
  replace h := h.up hv
  clear hv
  clear hC b1 b2
  go_upto_if 49 with (fail)
  go_cut [10] (fun v w' => v = .bool false ∧ TE w (tcl x p s) (s13 K F' B L W' C P T) (tot (.slice A1 n1 d1) m1 g1) (tot (.slice A2 n2 d2) m2 g2) (idc ns) w')
  case first =>
    as_aux_lemma =>
    by_cases ht : tcode x p s = 0
    · have e1 : (tcode x p s != 0) = false := by simp [ht]
      go_wp2
      go_meet
      exact ⟨rfl, h⟩
    · have e1 : (tcode x p s != 0) = true := by simpa using ht
      have e2 : (tcode x p s != tcode x p s) = false := by simp
      have hAd := fun w hT => (tadd_bad x p s A1 none n1 0 d1 0 m1 g1 ns hns (tcode x p s) (fun w => merge_task x p s hs ht A1 none n1 0 d1 0 m1 1 g1 (chk ns) w) w hT : Calls Tryd.prog 25 #[.agg (tot (.slice A1 n1 d1) m1 g1).toArray, .agg (tcl x p s).toArray, .agg (idc ns).toArray, .slice none 0 0] w _)
      have hMg := fun w => (merge_task x p s hs ht A1 A2 n1 n2 d1 d2 m1 m2 g1 g2 w : Calls Tryd.prog 15 #[.agg (tot (.slice A1 n1 d1) m1 g1).toArray, .agg (tcl x p s).toArray, .agg (tot (.slice A2 n2 d2) m2 g2).toArray] w _)
      have hUn := fun w => (unshard_task x p s hs ht A1 A2 n1 n2 d1 d2 m1 m2 g1 g2 w : Calls Tryd.prog 26 #[.agg (tcl x p s).toArray, .agg (tot (.slice A1 n1 d1) m1 g1).toArray, .agg (tot (.slice A2 n2 d2) m2 g2).toArray] w _)
      have hTk := fun w => (take_task x p s hs ht (.slice none 0 0) w : Calls Tryd.prog 30 #[.agg (tcl x p s).toArray, .slice none 0 0] w _)
      have hNw := fun w => (tnew_bad x p s hs ht w : Calls Tryd.prog 19 #[.agg (tcl x p s).toArray] w _)
      generalize tcode x p s = z at *
      replace hAd := Lib.hid hAd
      replace hMg := Lib.hid hMg
      replace hUn := Lib.hid hUn
      replace hTk := Lib.hid hTk
      replace hNw := Lib.hid hNw
      have hSm := Lib.hid (fun w => same_nil w)
      clear ht hns hg1 hg2
      go_wp2_with (first
        | (refine list_load_mid _ _ _ 0 _ _ rfl rfl rfl (At0.of_block h.kt) Tryd.underlying33 rfl (by kernel_rfl) ?_)
        | (refine list_load_mid _ _ _ 0 _ _ rfl rfl rfl (At0.of_block h.kx) Tryd.underlying39 rfl (by rw [tot_len]; kernel_rfl) ?_)
        | (refine list_load_mid _ _ _ 0 _ _ rfl rfl rfl (At0.of_block h.ky) Tryd.underlying39 rfl (by rw [tot_len]; kernel_rfl) ?_)
        | (refine list_load_mid _ _ _ 0 _ _ rfl rfl rfl (At0.of_block h.ki) Tryd.underlying51 rfl (by rw [hil.out]; kernel_rfl) ?_)
        | (refine list_load_mid _ _ _ 0 _ _ rfl rfl rfl (At0.of_block h.ks) Tryd.underlying25 rfl (by kernel_rfl) ?_))
      refine call_then (hAd.out _ (hT.out.up h.hb)) ?_
      intro wn hv
      replace h := h.up hv
      clear hv
      go_upto_region 8 with (first
        | (refine list_store_whole _ _ _ _ noTot noTot 39 rfl rfl rfl rfl (alloc_at rfl) rfl (by kernel_rfl) hone.out ?_; intro wm hbut kr))
      replace h := h.new hbut
      clear hbut kr
      generalize wn.heap.size = o1 at *
      go_wp2_with (first
        | (refine list_load_mid _ _ _ 0 _ _ rfl rfl rfl (At0.of_block h.kt) Tryd.underlying33 rfl (by kernel_rfl) ?_)
        | (refine list_load_mid _ _ _ 0 _ _ rfl rfl rfl (At0.of_block h.kx) Tryd.underlying39 rfl (by rw [tot_len]; kernel_rfl) ?_)
        | (refine list_load_mid _ _ _ 0 _ _ rfl rfl rfl (At0.of_block h.ky) Tryd.underlying39 rfl (by rw [tot_len]; kernel_rfl) ?_)
        | (refine list_load_mid _ _ _ 0 _ _ rfl rfl rfl (At0.of_block h.ki) Tryd.underlying51 rfl (by rw [hil.out]; kernel_rfl) ?_)
        | (refine list_load_mid _ _ _ 0 _ _ rfl rfl rfl (At0.of_block h.ks) Tryd.underlying25 rfl (by kernel_rfl) ?_))
      refine call_then (hMg.out _) ?_
      intro wn hv
      replace h := h.up hv
      clear hv
      go_upto_region 9 with (first
        | (refine list_store_whole _ _ _ _ noTot noTot 39 rfl rfl rfl rfl (alloc_at rfl) rfl (by kernel_rfl) hone.out ?_; intro wm hbut kr))
      replace h := h.new hbut
      clear hbut kr
      generalize wn.heap.size = o2 at *
      go_wp2_with (first
        | (refine list_load_mid _ _ _ 0 _ _ rfl rfl rfl (At0.of_block h.kt) Tryd.underlying33 rfl (by kernel_rfl) ?_)
        | (refine list_load_mid _ _ _ 0 _ _ rfl rfl rfl (At0.of_block h.kx) Tryd.underlying39 rfl (by rw [tot_len]; kernel_rfl) ?_)
        | (refine list_load_mid _ _ _ 0 _ _ rfl rfl rfl (At0.of_block h.ky) Tryd.underlying39 rfl (by rw [tot_len]; kernel_rfl) ?_)
        | (refine list_load_mid _ _ _ 0 _ _ rfl rfl rfl (At0.of_block h.ki) Tryd.underlying51 rfl (by rw [hil.out]; kernel_rfl) ?_)
        | (refine list_load_mid _ _ _ 0 _ _ rfl rfl rfl (At0.of_block h.ks) Tryd.underlying25 rfl (by kernel_rfl) ?_))
      refine call_then (hUn.out _) ?_
      intro wn hv
      replace h := h.up hv
      clear hv
      go_wp2_with (first
        | (refine list_load_mid _ _ _ 0 _ _ rfl rfl rfl (At0.of_block h.kt) Tryd.underlying33 rfl (by kernel_rfl) ?_)
        | (refine list_load_mid _ _ _ 0 _ _ rfl rfl rfl (At0.of_block h.kx) Tryd.underlying39 rfl (by rw [tot_len]; kernel_rfl) ?_)
        | (refine list_load_mid _ _ _ 0 _ _ rfl rfl rfl (At0.of_block h.ky) Tryd.underlying39 rfl (by rw [tot_len]; kernel_rfl) ?_)
        | (refine list_load_mid _ _ _ 0 _ _ rfl rfl rfl (At0.of_block h.ki) Tryd.underlying51 rfl (by rw [hil.out]; kernel_rfl) ?_)
        | (refine list_load_mid _ _ _ 0 _ _ rfl rfl rfl (At0.of_block h.ks) Tryd.underlying25 rfl (by kernel_rfl) ?_))
      refine call_then (hTk.out _) ?_
      intro wn hv
      replace h := h.up hv
      clear hv
      go_upto_region 11 with (first
        | (refine list_store_whole _ _ _ _ noTot noTot 39 rfl rfl rfl rfl (alloc_at rfl) rfl (by kernel_rfl) hone.out ?_; intro wm hbut kr))
      replace h := h.new hbut
      clear hbut kr
      generalize wn.heap.size = o3 at *
      go_wp2_with (first
        | (refine list_load_mid _ _ _ 0 _ _ rfl rfl rfl (At0.of_block h.kt) Tryd.underlying33 rfl (by kernel_rfl) ?_)
        | (refine list_load_mid _ _ _ 0 _ _ rfl rfl rfl (At0.of_block h.kx) Tryd.underlying39 rfl (by rw [tot_len]; kernel_rfl) ?_)
        | (refine list_load_mid _ _ _ 0 _ _ rfl rfl rfl (At0.of_block h.ky) Tryd.underlying39 rfl (by rw [tot_len]; kernel_rfl) ?_)
        | (refine list_load_mid _ _ _ 0 _ _ rfl rfl rfl (At0.of_block h.ki) Tryd.underlying51 rfl (by rw [hil.out]; kernel_rfl) ?_)
        | (refine list_load_mid _ _ _ 0 _ _ rfl rfl rfl (At0.of_block h.ks) Tryd.underlying25 rfl (by kernel_rfl) ?_))
      refine call_then (hNw.out _) ?_
      intro wn hv
      replace h := h.up hv
      clear hv
      go_wp2_with (first
        | (refine list_load_mid _ _ _ 0 _ _ rfl rfl rfl (At0.of_block h.kt) Tryd.underlying33 rfl (by kernel_rfl) ?_)
        | (refine list_load_mid _ _ _ 0 _ _ rfl rfl rfl (At0.of_block h.kx) Tryd.underlying39 rfl (by rw [tot_len]; kernel_rfl) ?_)
        | (refine list_load_mid _ _ _ 0 _ _ rfl rfl rfl (At0.of_block h.ky) Tryd.underlying39 rfl (by rw [tot_len]; kernel_rfl) ?_)
        | (refine list_load_mid _ _ _ 0 _ _ rfl rfl rfl (At0.of_block h.ki) Tryd.underlying51 rfl (by rw [hil.out]; kernel_rfl) ?_)
        | (refine list_load_mid _ _ _ 0 _ _ rfl rfl rfl (At0.of_block h.ks) Tryd.underlying25 rfl (by kernel_rfl) ?_))
      refine call_then (hSm.out _) ?_
      intro wn hv
      replace h := h.up hv
      clear hv
      go_wp2
      go_meet
      exact ⟨rfl, h⟩
  case rest =>
    obtain ⟨rfl, h'⟩ := hcut
    clear h
    have h := h'
    clear h'
    go_wp2_with (first
      | (refine list_load_mid _ _ _ 0 _ _ rfl rfl rfl (At0.of_block h.kt) Tryd.underlying33 rfl (by kernel_rfl) ?_)
      | (refine list_load_mid _ _ _ 0 _ _ rfl rfl rfl (At0.of_block h.kx) Tryd.underlying39 rfl (by rw [tot_len]; kernel_rfl) ?_)
      | (refine list_load_mid _ _ _ 0 _ _ rfl rfl rfl (At0.of_block h.ky) Tryd.underlying39 rfl (by rw [tot_len]; kernel_rfl) ?_)
      | (refine list_load_mid _ _ _ 0 _ _ rfl rfl rfl (At0.of_block h.ki) Tryd.underlying51 rfl (by rw [hil.out]; kernel_rfl) ?_)
      | (refine list_load_mid _ _ _ 0 _ _ rfl rfl rfl (At0.of_block h.ks) Tryd.underlying25 rfl (by kernel_rfl) ?_))
    refine call_then (hS.out _) ?_
    intro wn hv
    replace h := h.up hv
    clear hv
    clear hS
    go_upto_region 14 with (first
      | (refine list_store_whole _ _ _ _ (tcl y q r) (tcl ⟨0, 0, 0, 0, 0, 0⟩ 0 ⟨#[]⟩) 33 rfl rfl rfl rfl (alloc_at rfl) rfl (by kernel_rfl) (one_tcl _ _ _) ?_; intro wm hbut ku))
    have ho := h.lt
    replace h := h.new hbut
    clear hbut
    generalize wn.heap.size = o at *
    have hO := Lib.hid (fun w => (out_any y hgd.out.good w : Calls Tryd.prog 20 #[.agg (ccl y).toArray] w _))
    have hN4 := out_le4 hgd.out.good
    obtain ⟨N, hN⟩ : ∃ N, y.outN = N := ⟨_, rfl⟩
    rw [hN] at hO hN4
    replace hN := Lib.hid hN
    have hcm : wm.rangeAt o 0 (ccl y) := sub_range (At0.of_block ku) 0 _ (tcl_ccl y q r)
    go_wp2_with (first
      | (refine list_load_mid _ _ _ 0 _ _ rfl rfl rfl hcm Tryd.underlying31 rfl (by kernel_rfl) ?_))
    refine call_then (hO.out _) ?_
    intro wo hv
    replace h := h.up hv
    replace ku := keeps hv ku
    clear hv hcm hO
    go_upto_region 15 with (fail)
    go_cut [21] (fun v w' => v = .int .i64 (N : Int) ∧ ∃ ga gb, TE w (tcl x p s) (s13 K F' B L W' C P T) (tot (.slice (some ⟨ga, 0, none⟩) N N) m1 g1) (tot (.slice (some ⟨gb, 0, none⟩) N N) m2 g2) (idc ns) w' ∧ w'.heap[o]? = some (.cells (tcl y q r).toArray 33 (0, 0)) ∧ Row w' ga (List.replicate N 0) ∧ Row w' gb (List.replicate N 0) ∧ Hid (w.heap.size + 4 < ga) ∧ Hid (w.heap.size + 4 < gb))
    case first =>
      as_aux_lemma =>
      have hmk := make_elems N (by omega)
      refine segS_start (gb := fun _ => False) 8 (by kernel_rfl) (by decide) ?_
      intro v0 hv
      replace h := h.up hv
      replace ku := keeps hv ku
      try (replace ra := ra.up hv)
      try (replace rb := rb.up hv)
      clear hv
      refine segS_batch 6 [0, 2] (by kernel_rfl) rfl (by kernel_rfl) (by kernel_rfl) (by kernel_rfl) ?_
      apply Exists.intro
      refine ⟨fun ι _ φ hφ => ?_, fun v1 hv => ?_⟩
      · repeat (refine pick_step rfl ?_; go_big_quiet_step (fail))
        exact pick_end
      replace h := h.up hv
      replace ku := keeps hv ku
      try (replace ra := ra.up hv)
      try (replace rb := rb.up hv)
      clear hv
      refine segS_more [1, 3] (by kernel_rfl) (by decide) ?_
      intro j hj
      simp only [List.mem_cons, List.not_mem_nil, or_false] at hj
      rcases hj with rfl | rfl
      · refine ⟨by decide, _, rfl, ?_⟩
        intro v2 K2 hv hK
        replace h := h.up hv
        replace ku := keeps hv ku
        try (replace ra := ra.up hv)
        try (replace rb := rb.up hv)
        clear hv
        replace hK := Lib.hid hK
        go_simp
        have hv := (Below.refl v2.heap.size v2).alloc (Nat.le_refl _) (.cells (ecells (List.replicate N 0)).toArray 65 (0, 0))
        refine hK.out _ _ (HeldS.of_below hv) ?_
        clear hK K2
        have hlra := h.lt
        have ra : Row (v2.alloc (.cells (ecells (List.replicate N 0)).toArray 65 (0, 0))) v2.heap.size (List.replicate N 0) := alloc_at rfl
        replace h := h.up hv
        replace ku := keeps hv ku
        try (replace ra := ra.up hv)
        try (replace rb := rb.up hv)
        clear hv
        generalize v2.alloc (.cells (ecells (List.replicate N 0)).toArray 65 (0, 0)) = v3 at *
        generalize v2.heap.size = ga at *
        refine segS_batch 4 [4] (by kernel_rfl) rfl (by kernel_rfl) (by kernel_rfl) (by kernel_rfl) ?_
        apply Exists.intro
        refine ⟨fun ι _ φ hφ => ?_, fun v1 hv => ?_⟩
        · repeat (refine pick_step rfl ?_; go_big_quiet_step (fail))
          exact pick_end
        replace h := h.up hv
        replace ku := keeps hv ku
        try (replace ra := ra.up hv)
        try (replace rb := rb.up hv)
        clear hv
        refine segS_more [3, 5] (by kernel_rfl) (by decide) ?_
        intro j hj
        simp only [List.mem_cons, List.not_mem_nil, or_false] at hj
        rcases hj with rfl | rfl
        · refine ⟨by decide, _, rfl, ?_⟩
          intro v2 K2 hv hK
          replace h := h.up hv
          replace ku := keeps hv ku
          try (replace ra := ra.up hv)
          try (replace rb := rb.up hv)
          clear hv
          replace hK := Lib.hid hK
          go_simp
          have hv := (Below.refl v2.heap.size v2).alloc (Nat.le_refl _) (.cells (ecells (List.replicate N 0)).toArray 65 (0, 0))
          refine hK.out _ _ (HeldS.of_below hv) ?_
          clear hK K2
          have hlrb := h.lt
          have rb : Row (v2.alloc (.cells (ecells (List.replicate N 0)).toArray 65 (0, 0))) v2.heap.size (List.replicate N 0) := alloc_at rfl
          replace h := h.up hv
          replace ku := keeps hv ku
          try (replace ra := ra.up hv)
          try (replace rb := rb.up hv)
          clear hv
          generalize v2.alloc (.cells (ecells (List.replicate N 0)).toArray 65 (0, 0)) = v3 at *
          generalize v2.heap.size = gb at *
          refine segS_one 5 _ (by decide) rfl (by kernel_rfl) ?_
          intro v2 K2 hv hK
          replace h := h.up hv
          replace ku := keeps hv ku
          try (replace ra := ra.up hv)
          try (replace rb := rb.up hv)
          clear hv
          replace hK := Lib.hid hK
          have c0 := At0.of_block h.kx 0 (.slice A1 n1 d1) rfl
          have fr : v2.frozen? ⟨w.heap.size + 2, 0, none⟩ = false := by simp [World.frozen?, h.kx]
          simp only [Nat.zero_add] at c0
          have c1 : v2.cell? ⟨w.heap.size + 1 + 1, 0, none⟩ = some (.slice A1 n1 d1) := c0
          have fr1 : v2.frozen? ⟨w.heap.size + 1 + 1, 0, none⟩ = false := fr
          clear c0 fr
          go_simp
          have hbut : But (w.heap.size + 2) v2 (v2.setCell ⟨w.heap.size + 2, 0, none⟩ (.slice (some ⟨ga, 0, none⟩) N N)) := (But.refl _ _).set _
          refine hK.out _ _ ⟨hbut.os, hbut.tape, hbut.output, hbut.size, fun k hk hg => hg.elim⟩ ?_
          have hx : (v2.setCell ⟨w.heap.size + 2, 0, none⟩ (.slice (some ⟨ga, 0, none⟩) N N)).heap[w.heap.size + 2]? = some (.cells (tot (.slice (some ⟨ga, 0, none⟩) N N) m1 g1).toArray 39 (0, 0)) := by rw [store1 h.kx, tot_S]
          replace h := h.setX hbut hx
          replace ku := (hbut.block _ (lt_of_get ku) (by omega)).trans ku
          replace ra : Row (v2.setCell ⟨w.heap.size + 2, 0, none⟩ (.slice (some ⟨ga, 0, none⟩) N N)) ga (List.replicate N 0) := (hbut.block _ (lt_of_get ra) (by omega)).trans ra
          try (replace rb : Row (v2.setCell ⟨w.heap.size + 2, 0, none⟩ (.slice (some ⟨ga, 0, none⟩) N N)) gb (List.replicate N 0) := (hbut.block _ (lt_of_get rb) (by omega)).trans rb)
          clear hbut hx hK K2 c1 fr1
          change SegS _ _ _ _ _ _ _ _ (v2.setCell ⟨w.heap.size + 2, 0, none⟩ (.slice (some ⟨ga, 0, none⟩) N N))
          generalize v2.setCell ⟨w.heap.size + 2, 0, none⟩ (.slice (some ⟨ga, 0, none⟩) N N) = v4 at *
          try rw [put_noneT]
          refine segS_batch 1 [6] (by kernel_rfl) rfl (by kernel_rfl) (by kernel_rfl) (by kernel_rfl) ?_
          apply Exists.intro
          refine ⟨fun ι _ φ hφ => ?_, fun v1 hv => ?_⟩
          · repeat (refine pick_step rfl ?_; go_big_quiet_step (fail))
            exact pick_end
          replace h := h.up hv
          replace ku := keeps hv ku
          try (replace ra := ra.up hv)
          try (replace rb := rb.up hv)
          clear hv
          refine segS_one 7 _ (by decide) rfl (by kernel_rfl) ?_
          intro v2 K2 hv hK
          replace h := h.up hv
          replace ku := keeps hv ku
          try (replace ra := ra.up hv)
          try (replace rb := rb.up hv)
          clear hv
          replace hK := Lib.hid hK
          have c0 := At0.of_block h.ky 0 (.slice A2 n2 d2) rfl
          have fr : v2.frozen? ⟨w.heap.size + 3, 0, none⟩ = false := by simp [World.frozen?, h.ky]
          simp only [Nat.zero_add] at c0
          have c1 : v2.cell? ⟨w.heap.size + 1 + 1 + 1, 0, none⟩ = some (.slice A2 n2 d2) := c0
          have fr1 : v2.frozen? ⟨w.heap.size + 1 + 1 + 1, 0, none⟩ = false := fr
          clear c0 fr
          go_simp
          have hbut : But (w.heap.size + 3) v2 (v2.setCell ⟨w.heap.size + 3, 0, none⟩ (.slice (some ⟨gb, 0, none⟩) N N)) := (But.refl _ _).set _
          refine hK.out _ _ ⟨hbut.os, hbut.tape, hbut.output, hbut.size, fun k hk hg => hg.elim⟩ ?_
          have hx : (v2.setCell ⟨w.heap.size + 3, 0, none⟩ (.slice (some ⟨gb, 0, none⟩) N N)).heap[w.heap.size + 3]? = some (.cells (tot (.slice (some ⟨gb, 0, none⟩) N N) m2 g2).toArray 39 (0, 0)) := by rw [store1 h.ky, tot_S]
          replace h := h.setY hbut hx
          replace ku := (hbut.block _ (lt_of_get ku) (by omega)).trans ku
          replace ra : Row (v2.setCell ⟨w.heap.size + 3, 0, none⟩ (.slice (some ⟨gb, 0, none⟩) N N)) ga (List.replicate N 0) := (hbut.block _ (lt_of_get ra) (by omega)).trans ra
          try (replace rb : Row (v2.setCell ⟨w.heap.size + 3, 0, none⟩ (.slice (some ⟨gb, 0, none⟩) N N)) gb (List.replicate N 0) := (hbut.block _ (lt_of_get rb) (by omega)).trans rb)
          clear hbut hx hK K2 c1 fr1
          change SegS _ _ _ _ _ _ _ _ (v2.setCell ⟨w.heap.size + 3, 0, none⟩ (.slice (some ⟨gb, 0, none⟩) N N))
          generalize v2.setCell ⟨w.heap.size + 3, 0, none⟩ (.slice (some ⟨gb, 0, none⟩) N N) = v4 at *
          try rw [put_noneT]
          refine segS_done rfl (by kernel_rfl) ?_
          intro v5 hv
          replace h := h.up hv
          replace ku := keeps hv ku
          try (replace ra := ra.up hv)
          try (replace rb := rb.up hv)
          clear hv
          go_wp2
          go_meet
          exact ⟨rfl, ga, gb, h, ku, ra, rb, Lib.hid (by omega), Lib.hid (by omega)⟩
        · refine ⟨by decide, _, rfl, ?_⟩
          intro v2 K2 hv hK
          replace h := h.up hv
          replace ku := keeps hv ku
          try (replace ra := ra.up hv)
          try (replace rb := rb.up hv)
          clear hv
          replace hK := Lib.hid hK
          have c0 := At0.of_block h.kx 0 (.slice A1 n1 d1) rfl
          have fr : v2.frozen? ⟨w.heap.size + 2, 0, none⟩ = false := by simp [World.frozen?, h.kx]
          simp only [Nat.zero_add] at c0
          have c1 : v2.cell? ⟨w.heap.size + 1 + 1, 0, none⟩ = some (.slice A1 n1 d1) := c0
          have fr1 : v2.frozen? ⟨w.heap.size + 1 + 1, 0, none⟩ = false := fr
          clear c0 fr
          go_simp
          have hbut : But (w.heap.size + 2) v2 (v2.setCell ⟨w.heap.size + 2, 0, none⟩ (.slice (some ⟨ga, 0, none⟩) N N)) := (But.refl _ _).set _
          refine hK.out _ _ ⟨hbut.os, hbut.tape, hbut.output, hbut.size, fun k hk hg => hg.elim⟩ ?_
          have hx : (v2.setCell ⟨w.heap.size + 2, 0, none⟩ (.slice (some ⟨ga, 0, none⟩) N N)).heap[w.heap.size + 2]? = some (.cells (tot (.slice (some ⟨ga, 0, none⟩) N N) m1 g1).toArray 39 (0, 0)) := by rw [store1 h.kx, tot_S]
          replace h := h.setX hbut hx
          replace ku := (hbut.block _ (lt_of_get ku) (by omega)).trans ku
          replace ra : Row (v2.setCell ⟨w.heap.size + 2, 0, none⟩ (.slice (some ⟨ga, 0, none⟩) N N)) ga (List.replicate N 0) := (hbut.block _ (lt_of_get ra) (by omega)).trans ra
          try (replace rb : Row (v2.setCell ⟨w.heap.size + 2, 0, none⟩ (.slice (some ⟨ga, 0, none⟩) N N)) gb (List.replicate N 0) := (hbut.block _ (lt_of_get rb) (by omega)).trans rb)
          clear hbut hx hK K2 c1 fr1
          change SegS _ _ _ _ _ _ _ _ (v2.setCell ⟨w.heap.size + 2, 0, none⟩ (.slice (some ⟨ga, 0, none⟩) N N))
          generalize v2.setCell ⟨w.heap.size + 2, 0, none⟩ (.slice (some ⟨ga, 0, none⟩) N N) = v4 at *
          try rw [put_noneT]
          refine segS_one 3 _ (by decide) rfl (by kernel_rfl) ?_
          intro v2 K2 hv hK
          replace h := h.up hv
          replace ku := keeps hv ku
          try (replace ra := ra.up hv)
          try (replace rb := rb.up hv)
          clear hv
          replace hK := Lib.hid hK
          go_simp
          have hv := (Below.refl v2.heap.size v2).alloc (Nat.le_refl _) (.cells (ecells (List.replicate N 0)).toArray 65 (0, 0))
          refine hK.out _ _ (HeldS.of_below hv) ?_
          clear hK K2
          have hlrb := h.lt
          have rb : Row (v2.alloc (.cells (ecells (List.replicate N 0)).toArray 65 (0, 0))) v2.heap.size (List.replicate N 0) := alloc_at rfl
          replace h := h.up hv
          replace ku := keeps hv ku
          try (replace ra := ra.up hv)
          try (replace rb := rb.up hv)
          clear hv
          generalize v2.alloc (.cells (ecells (List.replicate N 0)).toArray 65 (0, 0)) = v3 at *
          generalize v2.heap.size = gb at *
          refine segS_batch 1 [6] (by kernel_rfl) rfl (by kernel_rfl) (by kernel_rfl) (by kernel_rfl) ?_
          apply Exists.intro
          refine ⟨fun ι _ φ hφ => ?_, fun v1 hv => ?_⟩
          · repeat (refine pick_step rfl ?_; go_big_quiet_step (fail))
            exact pick_end
          replace h := h.up hv
          replace ku := keeps hv ku
          try (replace ra := ra.up hv)
          try (replace rb := rb.up hv)
          clear hv
          refine segS_one 7 _ (by decide) rfl (by kernel_rfl) ?_
          intro v2 K2 hv hK
          replace h := h.up hv
          replace ku := keeps hv ku
          try (replace ra := ra.up hv)
          try (replace rb := rb.up hv)
          clear hv
          replace hK := Lib.hid hK
          have c0 := At0.of_block h.ky 0 (.slice A2 n2 d2) rfl
          have fr : v2.frozen? ⟨w.heap.size + 3, 0, none⟩ = false := by simp [World.frozen?, h.ky]
          simp only [Nat.zero_add] at c0
          have c1 : v2.cell? ⟨w.heap.size + 1 + 1 + 1, 0, none⟩ = some (.slice A2 n2 d2) := c0
          have fr1 : v2.frozen? ⟨w.heap.size + 1 + 1 + 1, 0, none⟩ = false := fr
          clear c0 fr
          go_simp
          have hbut : But (w.heap.size + 3) v2 (v2.setCell ⟨w.heap.size + 3, 0, none⟩ (.slice (some ⟨gb, 0, none⟩) N N)) := (But.refl _ _).set _
          refine hK.out _ _ ⟨hbut.os, hbut.tape, hbut.output, hbut.size, fun k hk hg => hg.elim⟩ ?_
          have hx : (v2.setCell ⟨w.heap.size + 3, 0, none⟩ (.slice (some ⟨gb, 0, none⟩) N N)).heap[w.heap.size + 3]? = some (.cells (tot (.slice (some ⟨gb, 0, none⟩) N N) m2 g2).toArray 39 (0, 0)) := by rw [store1 h.ky, tot_S]
          replace h := h.setY hbut hx
          replace ku := (hbut.block _ (lt_of_get ku) (by omega)).trans ku
          replace ra : Row (v2.setCell ⟨w.heap.size + 3, 0, none⟩ (.slice (some ⟨gb, 0, none⟩) N N)) ga (List.replicate N 0) := (hbut.block _ (lt_of_get ra) (by omega)).trans ra
          try (replace rb : Row (v2.setCell ⟨w.heap.size + 3, 0, none⟩ (.slice (some ⟨gb, 0, none⟩) N N)) gb (List.replicate N 0) := (hbut.block _ (lt_of_get rb) (by omega)).trans rb)
          clear hbut hx hK K2 c1 fr1
          change SegS _ _ _ _ _ _ _ _ (v2.setCell ⟨w.heap.size + 3, 0, none⟩ (.slice (some ⟨gb, 0, none⟩) N N))
          generalize v2.setCell ⟨w.heap.size + 3, 0, none⟩ (.slice (some ⟨gb, 0, none⟩) N N) = v4 at *
          try rw [put_noneT]
          refine segS_done rfl (by kernel_rfl) ?_
          intro v5 hv
          replace h := h.up hv
          replace ku := keeps hv ku
          try (replace ra := ra.up hv)
          try (replace rb := rb.up hv)
          clear hv
          go_wp2
          go_meet
          exact ⟨rfl, ga, gb, h, ku, ra, rb, Lib.hid (by omega), Lib.hid (by omega)⟩
      · refine ⟨by decide, _, rfl, ?_⟩
        intro v2 K2 hv hK
        replace h := h.up hv
        replace ku := keeps hv ku
        try (replace ra := ra.up hv)
        try (replace rb := rb.up hv)
        clear hv
        replace hK := Lib.hid hK
        go_simp
        have hv := (Below.refl v2.heap.size v2).alloc (Nat.le_refl _) (.cells (ecells (List.replicate N 0)).toArray 65 (0, 0))
        refine hK.out _ _ (HeldS.of_below hv) ?_
        clear hK K2
        have hlrb := h.lt
        have rb : Row (v2.alloc (.cells (ecells (List.replicate N 0)).toArray 65 (0, 0))) v2.heap.size (List.replicate N 0) := alloc_at rfl
        replace h := h.up hv
        replace ku := keeps hv ku
        try (replace ra := ra.up hv)
        try (replace rb := rb.up hv)
        clear hv
        generalize v2.alloc (.cells (ecells (List.replicate N 0)).toArray 65 (0, 0)) = v3 at *
        generalize v2.heap.size = gb at *
        refine segS_one 1 _ (by decide) rfl (by kernel_rfl) ?_
        intro v2 K2 hv hK
        replace h := h.up hv
        replace ku := keeps hv ku
        try (replace ra := ra.up hv)
        try (replace rb := rb.up hv)
        clear hv
        replace hK := Lib.hid hK
        go_simp
        have hv := (Below.refl v2.heap.size v2).alloc (Nat.le_refl _) (.cells (ecells (List.replicate N 0)).toArray 65 (0, 0))
        refine hK.out _ _ (HeldS.of_below hv) ?_
        clear hK K2
        have hlra := h.lt
        have ra : Row (v2.alloc (.cells (ecells (List.replicate N 0)).toArray 65 (0, 0))) v2.heap.size (List.replicate N 0) := alloc_at rfl
        replace h := h.up hv
        replace ku := keeps hv ku
        try (replace ra := ra.up hv)
        try (replace rb := rb.up hv)
        clear hv
        generalize v2.alloc (.cells (ecells (List.replicate N 0)).toArray 65 (0, 0)) = v3 at *
        generalize v2.heap.size = ga at *
        refine segS_batch 3 [4] (by kernel_rfl) rfl (by kernel_rfl) (by kernel_rfl) (by kernel_rfl) ?_
        apply Exists.intro
        refine ⟨fun ι _ φ hφ => ?_, fun v1 hv => ?_⟩
        · repeat (refine pick_step rfl ?_; go_big_quiet_step (fail))
          exact pick_end
        replace h := h.up hv
        replace ku := keeps hv ku
        try (replace ra := ra.up hv)
        try (replace rb := rb.up hv)
        clear hv
        refine segS_one 5 _ (by decide) rfl (by kernel_rfl) ?_
        intro v2 K2 hv hK
        replace h := h.up hv
        replace ku := keeps hv ku
        try (replace ra := ra.up hv)
        try (replace rb := rb.up hv)
        clear hv
        replace hK := Lib.hid hK
        have c0 := At0.of_block h.kx 0 (.slice A1 n1 d1) rfl
        have fr : v2.frozen? ⟨w.heap.size + 2, 0, none⟩ = false := by simp [World.frozen?, h.kx]
        simp only [Nat.zero_add] at c0
        have c1 : v2.cell? ⟨w.heap.size + 1 + 1, 0, none⟩ = some (.slice A1 n1 d1) := c0
        have fr1 : v2.frozen? ⟨w.heap.size + 1 + 1, 0, none⟩ = false := fr
        clear c0 fr
        go_simp
        have hbut : But (w.heap.size + 2) v2 (v2.setCell ⟨w.heap.size + 2, 0, none⟩ (.slice (some ⟨ga, 0, none⟩) N N)) := (But.refl _ _).set _
        refine hK.out _ _ ⟨hbut.os, hbut.tape, hbut.output, hbut.size, fun k hk hg => hg.elim⟩ ?_
        have hx : (v2.setCell ⟨w.heap.size + 2, 0, none⟩ (.slice (some ⟨ga, 0, none⟩) N N)).heap[w.heap.size + 2]? = some (.cells (tot (.slice (some ⟨ga, 0, none⟩) N N) m1 g1).toArray 39 (0, 0)) := by rw [store1 h.kx, tot_S]
        replace h := h.setX hbut hx
        replace ku := (hbut.block _ (lt_of_get ku) (by omega)).trans ku
        replace ra : Row (v2.setCell ⟨w.heap.size + 2, 0, none⟩ (.slice (some ⟨ga, 0, none⟩) N N)) ga (List.replicate N 0) := (hbut.block _ (lt_of_get ra) (by omega)).trans ra
        try (replace rb : Row (v2.setCell ⟨w.heap.size + 2, 0, none⟩ (.slice (some ⟨ga, 0, none⟩) N N)) gb (List.replicate N 0) := (hbut.block _ (lt_of_get rb) (by omega)).trans rb)
        clear hbut hx hK K2 c1 fr1
        change SegS _ _ _ _ _ _ _ _ (v2.setCell ⟨w.heap.size + 2, 0, none⟩ (.slice (some ⟨ga, 0, none⟩) N N))
        generalize v2.setCell ⟨w.heap.size + 2, 0, none⟩ (.slice (some ⟨ga, 0, none⟩) N N) = v4 at *
        try rw [put_noneT]
        refine segS_batch 1 [6] (by kernel_rfl) rfl (by kernel_rfl) (by kernel_rfl) (by kernel_rfl) ?_
        apply Exists.intro
        refine ⟨fun ι _ φ hφ => ?_, fun v1 hv => ?_⟩
        · repeat (refine pick_step rfl ?_; go_big_quiet_step (fail))
          exact pick_end
        replace h := h.up hv
        replace ku := keeps hv ku
        try (replace ra := ra.up hv)
        try (replace rb := rb.up hv)
        clear hv
        refine segS_one 7 _ (by decide) rfl (by kernel_rfl) ?_
        intro v2 K2 hv hK
        replace h := h.up hv
        replace ku := keeps hv ku
        try (replace ra := ra.up hv)
        try (replace rb := rb.up hv)
        clear hv
        replace hK := Lib.hid hK
        have c0 := At0.of_block h.ky 0 (.slice A2 n2 d2) rfl
        have fr : v2.frozen? ⟨w.heap.size + 3, 0, none⟩ = false := by simp [World.frozen?, h.ky]
        simp only [Nat.zero_add] at c0
        have c1 : v2.cell? ⟨w.heap.size + 1 + 1 + 1, 0, none⟩ = some (.slice A2 n2 d2) := c0
        have fr1 : v2.frozen? ⟨w.heap.size + 1 + 1 + 1, 0, none⟩ = false := fr
        clear c0 fr
        go_simp
        have hbut : But (w.heap.size + 3) v2 (v2.setCell ⟨w.heap.size + 3, 0, none⟩ (.slice (some ⟨gb, 0, none⟩) N N)) := (But.refl _ _).set _
        refine hK.out _ _ ⟨hbut.os, hbut.tape, hbut.output, hbut.size, fun k hk hg => hg.elim⟩ ?_
        have hx : (v2.setCell ⟨w.heap.size + 3, 0, none⟩ (.slice (some ⟨gb, 0, none⟩) N N)).heap[w.heap.size + 3]? = some (.cells (tot (.slice (some ⟨gb, 0, none⟩) N N) m2 g2).toArray 39 (0, 0)) := by rw [store1 h.ky, tot_S]
        replace h := h.setY hbut hx
        replace ku := (hbut.block _ (lt_of_get ku) (by omega)).trans ku
        replace ra : Row (v2.setCell ⟨w.heap.size + 3, 0, none⟩ (.slice (some ⟨gb, 0, none⟩) N N)) ga (List.replicate N 0) := (hbut.block _ (lt_of_get ra) (by omega)).trans ra
        try (replace rb : Row (v2.setCell ⟨w.heap.size + 3, 0, none⟩ (.slice (some ⟨gb, 0, none⟩) N N)) gb (List.replicate N 0) := (hbut.block _ (lt_of_get rb) (by omega)).trans rb)
        clear hbut hx hK K2 c1 fr1
        change SegS _ _ _ _ _ _ _ _ (v2.setCell ⟨w.heap.size + 3, 0, none⟩ (.slice (some ⟨gb, 0, none⟩) N N))
        generalize v2.setCell ⟨w.heap.size + 3, 0, none⟩ (.slice (some ⟨gb, 0, none⟩) N N) = v4 at *
        try rw [put_noneT]
        refine segS_done rfl (by kernel_rfl) ?_
        intro v5 hv
        replace h := h.up hv
        replace ku := keeps hv ku
        try (replace ra := ra.up hv)
        try (replace rb := rb.up hv)
        clear hv
        go_wp2
        go_meet
        exact ⟨rfl, ga, gb, h, ku, ra, rb, Lib.hid (by omega), Lib.hid (by omega)⟩
    case rest =>
      obtain ⟨rfl, ga, gb, h', ku', ra, rb, hga', hgb'⟩ := hcut
      have hga := hga'.out
      have hgb := hgb'.out
      clear h ku
      have h := h'
      have ku := ku'
      clear h' ku'
      have hrz : ElemsOK (List.replicate N 0) := fun x hx => by obtain rfl := List.eq_of_mem_replicate hx; omega
      have hrl : (List.replicate N (0 : Int)).length = N := by simp
      have hAd := Lib.hid (fun (w : World) gn hT (ra : Row w ga (List.replicate N 0)) (rn : Row w gn (List.replicate N 0)) => tadd_two y q r hgd.out (List.replicate N 0) (List.replicate N 0) (some ⟨ga, 0, none⟩) (some ⟨gn, 0, none⟩) N N N m1 g1 ns hns hN.out.symm hrz hrz hrl hrl hg1 w hT ra.elems rn.elems)
      have hMg := Lib.hid (fun (w : World) (ra : Row w ga (List.replicate N 0)) (rb : Row w gb (List.replicate N 0)) => merge_two y q r hgd.out (List.replicate N 0) (List.replicate N 0) (some ⟨ga, 0, none⟩) (some ⟨gb, 0, none⟩) N N N m1 m2 g1 g2 hN.out.symm hrz hrz hrl hrl hg1 hg2 w ra.elems rb.elems)
      have hmk := make_elems N (by omega)
      go_upto_region 16 with (fail)
      go_cut [23] (fun v w' => v = .int .i64 (fewE m1 1) ∧ TE w (tcl x p s) (s13 K F' B L W' C P T) (tot (.slice (some ⟨ga, 0, none⟩) N N) m1 g1) (tot (.slice (some ⟨gb, 0, none⟩) N N) m2 g2) (idc ns) w' ∧ w'.heap[o]? = some (.cells (tcl y q r).toArray 33 (0, 0)) ∧ Row w' ga (List.replicate N 0) ∧ Row w' gb (List.replicate N 0))
      case first =>
        as_aux_lemma =>
        refine segS_start (gb := fun k => k ≤ o) 12 (by kernel_rfl) (by decide) ?_
        intro v0 hv
        replace h := h.up hv
        replace ku := keeps hv ku
        replace ra := ra.up hv
        replace rb := rb.up hv
        try (replace rn := rn.up hv)
        try (replace k7 := keeps hv k7)
        clear hv
        refine segS_batch 8 [0, 1, 2, 3] (by kernel_rfl) rfl (by kernel_rfl) (by kernel_rfl) (by kernel_rfl) ?_
        apply Exists.intro
        refine ⟨fun ι _ φ hφ => ?_, fun v1 hv => ?_⟩
        · repeat (refine pick_step rfl ?_; first
            | (refine quiet_load_mid _ _ _ 0 _ _ rfl rfl rfl (mid_familyT hφ (At0.of_block h.kx) (by omega)) Tryd.underlying39 rfl (by rw [tot_len]; kernel_rfl) ?_; simp only [Act.put, List.setIfInBounds_toArray, List.set_cons_succ, List.set_cons_zero])
            | (refine quiet_load_mid _ _ _ 0 _ _ rfl rfl rfl (mid_familyT hφ (At0.of_block ku) (Nat.le_refl _)) Tryd.underlying33 rfl (by kernel_rfl) ?_; simp only [Act.put, List.setIfInBounds_toArray, List.set_cons_succ, List.set_cons_zero])
            | (refine quiet_load_mid _ _ _ 0 _ _ rfl rfl rfl (mid_familyT hφ (At0.of_block h.ki) (by omega)) Tryd.underlying51 rfl (by rw [hil.out]; kernel_rfl) ?_; simp only [Act.put, List.setIfInBounds_toArray, List.set_cons_succ, List.set_cons_zero])
            | go_big_quiet_step (fail))
          exact pick_end
        replace h := h.up hv
        replace ku := keeps hv ku
        replace ra := ra.up hv
        replace rb := rb.up hv
        try (replace rn := rn.up hv)
        try (replace k7 := keeps hv k7)
        clear hv
        refine segS_more [4, 9] (by kernel_rfl) (by decide) ?_
        intro j hj
        simp only [List.mem_cons, List.not_mem_nil, or_false] at hj
        rcases hj with rfl | rfl
        · refine ⟨by decide, _, rfl, ?_⟩
          intro v2 K2 hv hK
          replace h := h.up hv
          replace ku := keeps hv ku
          replace ra := ra.up hv
          replace rb := rb.up hv
          try (replace rn := rn.up hv)
          try (replace k7 := keeps hv k7)
          clear hv
          replace hK := Lib.hid hK
          go_simp
          have hv := (Below.refl v2.heap.size v2).alloc (Nat.le_refl _) (.cells (ecells (List.replicate N 0)).toArray 65 (0, 0))
          refine hK.out _ _ (HeldS.of_below hv) ?_
          clear hK K2
          have rn : Row (v2.alloc (.cells (ecells (List.replicate N 0)).toArray 65 (0, 0))) v2.heap.size (List.replicate N 0) := alloc_at rfl
          replace h := h.up hv
          replace ku := keeps hv ku
          replace ra := ra.up hv
          replace rb := rb.up hv
          try (replace rn := rn.up hv)
          try (replace k7 := keeps hv k7)
          clear hv
          generalize v2.alloc (.cells (ecells (List.replicate N 0)).toArray 65 (0, 0)) = v3 at *
          generalize v2.heap.size = gn at *
          refine segS_more [5, 9] (by kernel_rfl) (by decide) ?_
          intro j hj
          simp only [List.mem_cons, List.not_mem_nil, or_false] at hj
          rcases hj with rfl | rfl
          · refine ⟨by decide, _, rfl, ?_⟩
            intro v2 K2 hv hK
            replace h := h.up hv
            replace ku := keeps hv ku
            replace ra := ra.up hv
            replace rb := rb.up hv
            try (replace rn := rn.up hv)
            try (replace k7 := keeps hv k7)
            clear hv
            have hA2 := Lib.hid (hAd.out v2 gn (hT.out.up h.hb) ra rn)
            replace hK := Lib.hid hK
            go_simp
            refine hA2.out.mono ?_
            rintro e v3 ⟨V, rfl, hv, hVl, hV1⟩
            refine hK.out _ _ (HeldS.of_below hv) ?_
            clear hK K2 hA2
            replace hVl := Lib.hid hVl
            replace hV1 := Lib.hid hV1
            replace h := h.up hv
            replace ku := keeps hv ku
            replace ra := ra.up hv
            replace rb := rb.up hv
            try (replace rn := rn.up hv)
            try (replace k7 := keeps hv k7)
            clear hv
            clear rn
            refine segS_batch 3 [6, 7, 8] (by kernel_rfl) rfl (by kernel_rfl) (by kernel_rfl) (by kernel_rfl) ?_
            apply Exists.intro
            refine ⟨fun ι _ φ hφ => ?_, fun v1 hv => ?_⟩
            · repeat (refine pick_step rfl ?_; go_big_quiet_step (fail))
              exact pick_end
            replace h := h.up hv
            replace ku := keeps hv ku
            replace ra := ra.up hv
            replace rb := rb.up hv
            try (replace rn := rn.up hv)
            try (replace k7 := keeps hv k7)
            clear hv
            refine segS_one 9 _ (by decide) rfl (by kernel_rfl) ?_
            intro v2 K2 hv hK
            replace h := h.up hv
            replace ku := keeps hv ku
            replace ra := ra.up hv
            replace rb := rb.up hv
            try (replace rn := rn.up hv)
            try (replace k7 := keeps hv k7)
            clear hv
            replace hK := Lib.hid hK
            go_simp
            have hv := (Below.refl v2.heap.size v2).alloc (Nat.le_refl _) (.cells #[.slice none 0 0, .int .i64 0, .int .u8 0, .int .u8 0, .int .u8 0, .int .u8 0, .int .u8 0, .int .u8 0, .int .u8 0, .int .u8 0, .int .u8 0, .int .u8 0, .int .u8 0, .int .u8 0, .int .u8 0, .int .u8 0, .int .u8 0, .int .u8 0] 39 (0, 0))
            refine hK.out _ _ (HeldS.of_below hv) ?_
            clear hK K2
            have k7 : (v2.alloc (.cells #[.slice none 0 0, .int .i64 0, .int .u8 0, .int .u8 0, .int .u8 0, .int .u8 0, .int .u8 0, .int .u8 0, .int .u8 0, .int .u8 0, .int .u8 0, .int .u8 0, .int .u8 0, .int .u8 0, .int .u8 0, .int .u8 0, .int .u8 0, .int .u8 0] 39 (0, 0))).heap[v2.heap.size]? = some (.cells noTot.toArray 39 (0, 0)) := alloc_at rfl
            have hqw : w.heap.size ≤ v2.heap.size := h.hb.size
            have hqo : o < v2.heap.size := lt_of_get ku
            have hqa : ga < v2.heap.size := lt_of_get ra
            have hqb : gb < v2.heap.size := lt_of_get rb
            replace h := h.up hv
            replace ku := keeps hv ku
            replace ra := ra.up hv
            replace rb := rb.up hv
            try (replace rn := rn.up hv)
            try (replace k7 := keeps hv k7)
            clear hv
            generalize v2.alloc (.cells #[.slice none 0 0, .int .i64 0, .int .u8 0, .int .u8 0, .int .u8 0, .int .u8 0, .int .u8 0, .int .u8 0, .int .u8 0, .int .u8 0, .int .u8 0, .int .u8 0, .int .u8 0, .int .u8 0, .int .u8 0, .int .u8 0, .int .u8 0, .int .u8 0] 39 (0, 0)) = v3 at *
            generalize v2.heap.size = q7 at *
            refine segS_one 10 _ (by decide) rfl (by kernel_rfl) ?_
            intro vc K2 hv hK
            replace h := h.up hv
            replace ku := keeps hv ku
            replace ra := ra.up hv
            replace rb := rb.up hv
            try (replace rn := rn.up hv)
            try (replace k7 := keeps hv k7)
            clear hv
            replace hK := Lib.hid hK
            have hbut : But q7 vc (vc.setCells q7 0 V) := (But.refl q7 vc).setCells V 0 vc
            rw [if_pos (by kernel_rfl)]
            refine wp_store_mid 39 _ _ rfl q7 0 V.toArray rfl rfl (fun j hj => ?_) (by simp only [List.size_toArray, hVl.out]; exact info_total) (by simpa using hV1.out) (hK.out _ _ ⟨hbut.os, hbut.tape, hbut.output, hbut.size, fun b hb hne => hbut.block b hb (by have : b ≤ o := hne; omega)⟩ ?_)
            · have hj' : j < 18 := by rw [← hVl.out]; simpa using hj
              simp [World.cell?, World.frozen?, k7]
              exact hj'
            have hlt := h.lt
            replace ku := (hbut.block _ (lt_of_get ku) (by omega)).trans ku
            replace ra : Row (vc.setCells q7 0 V) ga (List.replicate N 0) := (hbut.block _ (lt_of_get ra) (by omega)).trans ra
            replace rb : Row (vc.setCells q7 0 V) gb (List.replicate N 0) := (hbut.block _ (lt_of_get rb) (by omega)).trans rb
            replace h := h.farT hbut (by omega)
            clear hK K2 hbut k7 hlt
            generalize vc.setCells q7 0 V = vd at *
            rw [put_noneT]
            refine segS_batch 0 [11] (by kernel_rfl) rfl (by kernel_rfl) (by kernel_rfl) (by kernel_rfl) ?_
            apply Exists.intro
            refine ⟨fun ι _ φ hφ => ?_, fun v1 hv => ?_⟩
            · repeat (refine pick_step rfl ?_; go_big_quiet_step (fail))
              exact pick_end
            replace h := h.up hv
            replace ku := keeps hv ku
            replace ra := ra.up hv
            replace rb := rb.up hv
            try (replace rn := rn.up hv)
            try (replace k7 := keeps hv k7)
            clear hv
            refine segS_done rfl (by kernel_rfl) ?_
            intro v5 hv
            replace h := h.up hv
            replace ku := keeps hv ku
            replace ra := ra.up hv
            replace rb := rb.up hv
            try (replace rn := rn.up hv)
            try (replace k7 := keeps hv k7)
            clear hv
            go_wp2
            go_meet
            exact ⟨rfl, h, ku, ra, rb⟩
          · refine ⟨by decide, _, rfl, ?_⟩
            intro v2 K2 hv hK
            replace h := h.up hv
            replace ku := keeps hv ku
            replace ra := ra.up hv
            replace rb := rb.up hv
            try (replace rn := rn.up hv)
            try (replace k7 := keeps hv k7)
            clear hv
            replace hK := Lib.hid hK
            go_simp
            have hv := (Below.refl v2.heap.size v2).alloc (Nat.le_refl _) (.cells #[.slice none 0 0, .int .i64 0, .int .u8 0, .int .u8 0, .int .u8 0, .int .u8 0, .int .u8 0, .int .u8 0, .int .u8 0, .int .u8 0, .int .u8 0, .int .u8 0, .int .u8 0, .int .u8 0, .int .u8 0, .int .u8 0, .int .u8 0, .int .u8 0] 39 (0, 0))
            refine hK.out _ _ (HeldS.of_below hv) ?_
            clear hK K2
            have k7 : (v2.alloc (.cells #[.slice none 0 0, .int .i64 0, .int .u8 0, .int .u8 0, .int .u8 0, .int .u8 0, .int .u8 0, .int .u8 0, .int .u8 0, .int .u8 0, .int .u8 0, .int .u8 0, .int .u8 0, .int .u8 0, .int .u8 0, .int .u8 0, .int .u8 0, .int .u8 0] 39 (0, 0))).heap[v2.heap.size]? = some (.cells noTot.toArray 39 (0, 0)) := alloc_at rfl
            have hqw : w.heap.size ≤ v2.heap.size := h.hb.size
            have hqo : o < v2.heap.size := lt_of_get ku
            have hqa : ga < v2.heap.size := lt_of_get ra
            have hqb : gb < v2.heap.size := lt_of_get rb
            replace h := h.up hv
            replace ku := keeps hv ku
            replace ra := ra.up hv
            replace rb := rb.up hv
            try (replace rn := rn.up hv)
            try (replace k7 := keeps hv k7)
            clear hv
            generalize v2.alloc (.cells #[.slice none 0 0, .int .i64 0, .int .u8 0, .int .u8 0, .int .u8 0, .int .u8 0, .int .u8 0, .int .u8 0, .int .u8 0, .int .u8 0, .int .u8 0, .int .u8 0, .int .u8 0, .int .u8 0, .int .u8 0, .int .u8 0, .int .u8 0, .int .u8 0] 39 (0, 0)) = v3 at *
            generalize v2.heap.size = q7 at *
            refine segS_one 5 _ (by decide) rfl (by kernel_rfl) ?_
            intro v2 K2 hv hK
            replace h := h.up hv
            replace ku := keeps hv ku
            replace ra := ra.up hv
            replace rb := rb.up hv
            try (replace rn := rn.up hv)
            try (replace k7 := keeps hv k7)
            clear hv
            have hA2 := Lib.hid (hAd.out v2 gn (hT.out.up h.hb) ra rn)
            replace hK := Lib.hid hK
            go_simp
            refine hA2.out.mono ?_
            rintro e v3 ⟨V, rfl, hv, hVl, hV1⟩
            refine hK.out _ _ (HeldS.of_below hv) ?_
            clear hK K2 hA2
            replace hVl := Lib.hid hVl
            replace hV1 := Lib.hid hV1
            replace h := h.up hv
            replace ku := keeps hv ku
            replace ra := ra.up hv
            replace rb := rb.up hv
            try (replace rn := rn.up hv)
            try (replace k7 := keeps hv k7)
            clear hv
            clear rn
            refine segS_batch 2 [6, 7, 8] (by kernel_rfl) rfl (by kernel_rfl) (by kernel_rfl) (by kernel_rfl) ?_
            apply Exists.intro
            refine ⟨fun ι _ φ hφ => ?_, fun v1 hv => ?_⟩
            · repeat (refine pick_step rfl ?_; go_big_quiet_step (fail))
              exact pick_end
            replace h := h.up hv
            replace ku := keeps hv ku
            replace ra := ra.up hv
            replace rb := rb.up hv
            try (replace rn := rn.up hv)
            try (replace k7 := keeps hv k7)
            clear hv
            refine segS_one 10 _ (by decide) rfl (by kernel_rfl) ?_
            intro vc K2 hv hK
            replace h := h.up hv
            replace ku := keeps hv ku
            replace ra := ra.up hv
            replace rb := rb.up hv
            try (replace rn := rn.up hv)
            try (replace k7 := keeps hv k7)
            clear hv
            replace hK := Lib.hid hK
            have hbut : But q7 vc (vc.setCells q7 0 V) := (But.refl q7 vc).setCells V 0 vc
            rw [if_pos (by kernel_rfl)]
            refine wp_store_mid 39 _ _ rfl q7 0 V.toArray rfl rfl (fun j hj => ?_) (by simp only [List.size_toArray, hVl.out]; exact info_total) (by simpa using hV1.out) (hK.out _ _ ⟨hbut.os, hbut.tape, hbut.output, hbut.size, fun b hb hne => hbut.block b hb (by have : b ≤ o := hne; omega)⟩ ?_)
            · have hj' : j < 18 := by rw [← hVl.out]; simpa using hj
              simp [World.cell?, World.frozen?, k7]
              exact hj'
            have hlt := h.lt
            replace ku := (hbut.block _ (lt_of_get ku) (by omega)).trans ku
            replace ra : Row (vc.setCells q7 0 V) ga (List.replicate N 0) := (hbut.block _ (lt_of_get ra) (by omega)).trans ra
            replace rb : Row (vc.setCells q7 0 V) gb (List.replicate N 0) := (hbut.block _ (lt_of_get rb) (by omega)).trans rb
            replace h := h.farT hbut (by omega)
            clear hK K2 hbut k7 hlt
            generalize vc.setCells q7 0 V = vd at *
            rw [put_noneT]
            refine segS_batch 0 [11] (by kernel_rfl) rfl (by kernel_rfl) (by kernel_rfl) (by kernel_rfl) ?_
            apply Exists.intro
            refine ⟨fun ι _ φ hφ => ?_, fun v1 hv => ?_⟩
            · repeat (refine pick_step rfl ?_; go_big_quiet_step (fail))
              exact pick_end
            replace h := h.up hv
            replace ku := keeps hv ku
            replace ra := ra.up hv
            replace rb := rb.up hv
            try (replace rn := rn.up hv)
            try (replace k7 := keeps hv k7)
            clear hv
            refine segS_done rfl (by kernel_rfl) ?_
            intro v5 hv
            replace h := h.up hv
            replace ku := keeps hv ku
            replace ra := ra.up hv
            replace rb := rb.up hv
            try (replace rn := rn.up hv)
            try (replace k7 := keeps hv k7)
            clear hv
            go_wp2
            go_meet
            exact ⟨rfl, h, ku, ra, rb⟩
        · refine ⟨by decide, _, rfl, ?_⟩
          intro v2 K2 hv hK
          replace h := h.up hv
          replace ku := keeps hv ku
          replace ra := ra.up hv
          replace rb := rb.up hv
          try (replace rn := rn.up hv)
          try (replace k7 := keeps hv k7)
          clear hv
          replace hK := Lib.hid hK
          go_simp
          have hv := (Below.refl v2.heap.size v2).alloc (Nat.le_refl _) (.cells #[.slice none 0 0, .int .i64 0, .int .u8 0, .int .u8 0, .int .u8 0, .int .u8 0, .int .u8 0, .int .u8 0, .int .u8 0, .int .u8 0, .int .u8 0, .int .u8 0, .int .u8 0, .int .u8 0, .int .u8 0, .int .u8 0, .int .u8 0, .int .u8 0] 39 (0, 0))
          refine hK.out _ _ (HeldS.of_below hv) ?_
          clear hK K2
          have k7 : (v2.alloc (.cells #[.slice none 0 0, .int .i64 0, .int .u8 0, .int .u8 0, .int .u8 0, .int .u8 0, .int .u8 0, .int .u8 0, .int .u8 0, .int .u8 0, .int .u8 0, .int .u8 0, .int .u8 0, .int .u8 0, .int .u8 0, .int .u8 0, .int .u8 0, .int .u8 0] 39 (0, 0))).heap[v2.heap.size]? = some (.cells noTot.toArray 39 (0, 0)) := alloc_at rfl
          have hqw : w.heap.size ≤ v2.heap.size := h.hb.size
          have hqo : o < v2.heap.size := lt_of_get ku
          have hqa : ga < v2.heap.size := lt_of_get ra
          have hqb : gb < v2.heap.size := lt_of_get rb
          replace h := h.up hv
          replace ku := keeps hv ku
          replace ra := ra.up hv
          replace rb := rb.up hv
          try (replace rn := rn.up hv)
          try (replace k7 := keeps hv k7)
          clear hv
          generalize v2.alloc (.cells #[.slice none 0 0, .int .i64 0, .int .u8 0, .int .u8 0, .int .u8 0, .int .u8 0, .int .u8 0, .int .u8 0, .int .u8 0, .int .u8 0, .int .u8 0, .int .u8 0, .int .u8 0, .int .u8 0, .int .u8 0, .int .u8 0, .int .u8 0, .int .u8 0] 39 (0, 0)) = v3 at *
          generalize v2.heap.size = q7 at *
          refine segS_one 4 _ (by decide) rfl (by kernel_rfl) ?_
          intro v2 K2 hv hK
          replace h := h.up hv
          replace ku := keeps hv ku
          replace ra := ra.up hv
          replace rb := rb.up hv
          try (replace rn := rn.up hv)
          try (replace k7 := keeps hv k7)
          clear hv
          replace hK := Lib.hid hK
          go_simp
          have hv := (Below.refl v2.heap.size v2).alloc (Nat.le_refl _) (.cells (ecells (List.replicate N 0)).toArray 65 (0, 0))
          refine hK.out _ _ (HeldS.of_below hv) ?_
          clear hK K2
          have rn : Row (v2.alloc (.cells (ecells (List.replicate N 0)).toArray 65 (0, 0))) v2.heap.size (List.replicate N 0) := alloc_at rfl
          replace h := h.up hv
          replace ku := keeps hv ku
          replace ra := ra.up hv
          replace rb := rb.up hv
          try (replace rn := rn.up hv)
          try (replace k7 := keeps hv k7)
          clear hv
          generalize v2.alloc (.cells (ecells (List.replicate N 0)).toArray 65 (0, 0)) = v3 at *
          generalize v2.heap.size = gn at *
          refine segS_one 5 _ (by decide) rfl (by kernel_rfl) ?_
          intro v2 K2 hv hK
          replace h := h.up hv
          replace ku := keeps hv ku
          replace ra := ra.up hv
          replace rb := rb.up hv
          try (replace rn := rn.up hv)
          try (replace k7 := keeps hv k7)
          clear hv
          have hA2 := Lib.hid (hAd.out v2 gn (hT.out.up h.hb) ra rn)
          replace hK := Lib.hid hK
          go_simp
          refine hA2.out.mono ?_
          rintro e v3 ⟨V, rfl, hv, hVl, hV1⟩
          refine hK.out _ _ (HeldS.of_below hv) ?_
          clear hK K2 hA2
          replace hVl := Lib.hid hVl
          replace hV1 := Lib.hid hV1
          replace h := h.up hv
          replace ku := keeps hv ku
          replace ra := ra.up hv
          replace rb := rb.up hv
          try (replace rn := rn.up hv)
          try (replace k7 := keeps hv k7)
          clear hv
          clear rn
          refine segS_batch 2 [6, 7, 8] (by kernel_rfl) rfl (by kernel_rfl) (by kernel_rfl) (by kernel_rfl) ?_
          apply Exists.intro
          refine ⟨fun ι _ φ hφ => ?_, fun v1 hv => ?_⟩
          · repeat (refine pick_step rfl ?_; go_big_quiet_step (fail))
            exact pick_end
          replace h := h.up hv
          replace ku := keeps hv ku
          replace ra := ra.up hv
          replace rb := rb.up hv
          try (replace rn := rn.up hv)
          try (replace k7 := keeps hv k7)
          clear hv
          refine segS_one 10 _ (by decide) rfl (by kernel_rfl) ?_
          intro vc K2 hv hK
          replace h := h.up hv
          replace ku := keeps hv ku
          replace ra := ra.up hv
          replace rb := rb.up hv
          try (replace rn := rn.up hv)
          try (replace k7 := keeps hv k7)
          clear hv
          replace hK := Lib.hid hK
          have hbut : But q7 vc (vc.setCells q7 0 V) := (But.refl q7 vc).setCells V 0 vc
          rw [if_pos (by kernel_rfl)]
          refine wp_store_mid 39 _ _ rfl q7 0 V.toArray rfl rfl (fun j hj => ?_) (by simp only [List.size_toArray, hVl.out]; exact info_total) (by simpa using hV1.out) (hK.out _ _ ⟨hbut.os, hbut.tape, hbut.output, hbut.size, fun b hb hne => hbut.block b hb (by have : b ≤ o := hne; omega)⟩ ?_)
          · have hj' : j < 18 := by rw [← hVl.out]; simpa using hj
            simp [World.cell?, World.frozen?, k7]
            exact hj'
          have hlt := h.lt
          replace ku := (hbut.block _ (lt_of_get ku) (by omega)).trans ku
          replace ra : Row (vc.setCells q7 0 V) ga (List.replicate N 0) := (hbut.block _ (lt_of_get ra) (by omega)).trans ra
          replace rb : Row (vc.setCells q7 0 V) gb (List.replicate N 0) := (hbut.block _ (lt_of_get rb) (by omega)).trans rb
          replace h := h.farT hbut (by omega)
          clear hK K2 hbut k7 hlt
          generalize vc.setCells q7 0 V = vd at *
          rw [put_noneT]
          refine segS_batch 0 [11] (by kernel_rfl) rfl (by kernel_rfl) (by kernel_rfl) (by kernel_rfl) ?_
          apply Exists.intro
          refine ⟨fun ι _ φ hφ => ?_, fun v1 hv => ?_⟩
          · repeat (refine pick_step rfl ?_; go_big_quiet_step (fail))
            exact pick_end
          replace h := h.up hv
          replace ku := keeps hv ku
          replace ra := ra.up hv
          replace rb := rb.up hv
          try (replace rn := rn.up hv)
          try (replace k7 := keeps hv k7)
          clear hv
          refine segS_done rfl (by kernel_rfl) ?_
          intro v5 hv
          replace h := h.up hv
          replace ku := keeps hv ku
          replace ra := ra.up hv
          replace rb := rb.up hv
          try (replace rn := rn.up hv)
          try (replace k7 := keeps hv k7)
          clear hv
          go_wp2
          go_meet
          exact ⟨rfl, h, ku, ra, rb⟩
      case rest =>
        obtain ⟨rfl, h', ku', ra', rb'⟩ := hcut
        clear h ku ra rb hAd
        have h := h'
        have ku := ku'
        have ra := ra'
        have rb := rb'
        clear h' ku' ra' rb'
        go_wp2_with (first
          | (refine list_load_mid _ _ _ 0 _ _ rfl rfl rfl (At0.of_block ku) Tryd.underlying33 rfl (by kernel_rfl) ?_)
          | (refine list_load_mid _ _ _ 0 _ _ rfl rfl rfl (At0.of_block h.kx) Tryd.underlying39 rfl (by rw [tot_len]; kernel_rfl) ?_)
          | (refine list_load_mid _ _ _ 0 _ _ rfl rfl rfl (At0.of_block h.ky) Tryd.underlying39 rfl (by rw [tot_len]; kernel_rfl) ?_))
        refine (hMg.out _ ra rb).mono ?_
        rintro e wn ⟨V, rfl, hv, hVl, hV1⟩
        replace h := h.up hv
        replace ku := keeps hv ku
        try (replace ra := ra.up hv)
        try (replace rb := rb.up hv)
        clear hv
        clear hMg
        go_upto_region 19 with (first
          | (refine list_store_whole _ _ _ _ V noTot 39 rfl rfl rfl rfl (alloc_at rfl) (by rw [hVl]; rfl) (by rw [hVl]; kernel_rfl) hV1 ?_; intro wm hbut kr))
        replace h := h.new hbut
        replace ku := new_keeps ku hbut
        replace ra : Row wm ga (List.replicate N 0) := new_keeps ra hbut
        replace rb : Row wm gb (List.replicate N 0) := new_keeps rb hbut
        clear hbut kr hVl hV1
        generalize wn.heap.size = o2 at *
        have q1 := At0.of_block h.kx 1 (.int .i64 m1) rfl
        have q2 := At0.of_block h.ky 1 (.int .i64 m2) rfl
        simp only [Nat.zero_add] at q1 q2
        go_cut [135] (fun v w' => v = .bool (!few m1 1) ∧ w' = wm)
        case first =>
          as_aux_lemma =>
          cases b1 : decide (m1 < 0) with
          | true =>
            go_wp2
            go_meet
            exact ⟨by rw [few_one, b1]; rfl, rfl⟩
          | false =>
            cases b2 : decide (m1 ≥ 256) with
            | true =>
              go_wp2
              go_meet
              exact ⟨by rw [few_one, b1, b2]; rfl, rfl⟩
            | false =>
              go_wp2
              go_meet
              exact ⟨by rw [few_one, b1, b2]; rfl, rfl⟩
        case rest =>
          obtain ⟨rfl, hwc⟩ := hcut
          rw [hwc]
          clear hwc
          go_upto_if 135 with (fail)
          go_cut [26] (fun v w' => v = .int .i64 (fewE m1 1) ∧ w' = wm)
          case first =>
            as_aux_lemma =>
            cases hf : few m1 1 with
            | true =>
              go_wp2
              go_meet
              exact ⟨by unfold fewE; rw [hf]; rfl, rfl⟩
            | false =>
              go_wp2
              go_meet
              exact ⟨by unfold fewE; rw [hf]; rfl, rfl⟩
          case rest =>
            obtain ⟨rfl, hwc⟩ := hcut
            rw [hwc]
            clear hwc
            go_upto_region 22 with (fail)
            go_cut [161] (fun v w' => v = .bool (!few m1 m2) ∧ w' = wm)
            case first =>
              as_aux_lemma =>
              cases b1 : decide (m1 < 0) with
              | true =>
                go_wp2
                go_meet
                exact ⟨by rw [few_two, b1]; rfl, rfl⟩
              | false =>
                cases b2 : decide (m2 < 0) with
                | true =>
                  go_wp2
                  go_meet
                  exact ⟨by rw [few_two, b1, b2]; rfl, rfl⟩
                | false =>
                  cases b3 : decide (m1 > 256) with
                  | true =>
                    go_wp2
                    go_meet
                    exact ⟨by rw [few_two, b1, b2, b3]; rfl, rfl⟩
                  | false =>
                    cases b4 : decide (m2 > 256) with
                    | true =>
                      go_wp2
                      go_meet
                      exact ⟨by rw [few_two, b1, b2, b3, b4]; rfl, rfl⟩
                    | false =>
                      have j1 : 0 ≤ m1 := by simpa using b1
                      have j2 : 0 ≤ m2 := by simpa using b2
                      have j3 : m1 ≤ 256 := by simpa using b3
                      have j4 : m2 ≤ 256 := by simpa using b4
                      cases b5 : decide (m1 + m2 > 256) with
                      | true =>
                        go_wp2
                        go_meet
                        exact ⟨by rw [few_two, b1, b2, b3, b4, b5]; rfl, rfl⟩
                      | false =>
                        go_wp2
                        go_meet
                        exact ⟨by rw [few_two, b1, b2, b3, b4, b5]; rfl, rfl⟩
            case rest =>
              obtain ⟨rfl, hwc⟩ := hcut
              rw [hwc]
              clear hwc
              go_upto_if 161 with (fail)
              go_cut [27] (fun v w' => v = .int .i64 (fewE m1 m2) ∧ w' = wm)
              case first =>
                as_aux_lemma =>
                cases hf : few m1 m2 with
                | true =>
                  go_wp2
                  go_meet
                  exact ⟨by unfold fewE; rw [hf]; rfl, rfl⟩
                | false =>
                  go_wp2
                  go_meet
                  exact ⟨by unfold fewE; rw [hf]; rfl, rfl⟩
              case rest =>
                obtain ⟨rfl, hwc⟩ := hcut
                rw [hwc]
                clear hwc
                have e1 : (fewE m1 1 != fewE m1 1) = false := by simp
                have e2 : (fewE m1 m2 != fewE m1 m2) = false := by simp
                go_upto_region 26 with (fail)
                clear e1 e2
                have fx : wm.frozen? ⟨w.heap.size + 1 + 1, 1, none⟩ = false := by
                  have := h.kx
                  simp [World.frozen?, this]
                have fy : wm.frozen? ⟨w.heap.size + 1 + 1 + 1, 1, none⟩ = false := by
                  have := h.ky
                  simp [World.frozen?, this]
                have qx : wm.cell? ⟨w.heap.size + 1 + 1, 1, none⟩ = some (.int .i64 m1) := q1
                have qy : wm.cell? ⟨w.heap.size + 1 + 1 + 1, 1, none⟩ = some (.int .i64 m2) := q2
                have hb1 : But (w.heap.size + 2) wm (wm.setCell ⟨w.heap.size + 2, 1, none⟩ (.int .i64 3)) := (But.refl _ _).set _
                have h1 : TE w (tcl x p s) (s13 K F' B L W' C P T) (tot (.slice (some ⟨ga, 0, none⟩) N N) 3 g1) (tot (.slice (some ⟨gb, 0, none⟩) N N) m2 g2) (idc ns) (wm.setCell ⟨w.heap.size + 2, 1, none⟩ (.int .i64 3)) := h.setX hb1 (by rw [store1 h.kx, tot_M])
                have hb2 : But (w.heap.size + 3) (wm.setCell ⟨w.heap.size + 2, 1, none⟩ (.int .i64 3)) ((wm.setCell ⟨w.heap.size + 2, 1, none⟩ (.int .i64 3)).setCell ⟨w.heap.size + 3, 1, none⟩ (.int .i64 3)) := (But.refl _ _).set _
                have h2 : TE w (tcl x p s) (s13 K F' B L W' C P T) (tot (.slice (some ⟨ga, 0, none⟩) N N) 3 g1) (tot (.slice (some ⟨gb, 0, none⟩) N N) 3 g2) (idc ns) ((wm.setCell ⟨w.heap.size + 2, 1, none⟩ (.int .i64 3)).setCell ⟨w.heap.size + 3, 1, none⟩ (.int .i64 3)) := h1.setY hb2 (by rw [store1 h1.ky, tot_M])
                go_upto_region 27 with (fail)
                refine name_wp (fun wm => TE w (tcl x p s) (s13 K F' B L W' C P T) (tot (.slice (some ⟨ga, 0, none⟩) N N) 3 g1) (tot (.slice (some ⟨gb, 0, none⟩) N N) 3 g2) (idc ns) wm ∧ wm.heap[o]? = some (.cells (tcl y q r).toArray 33 (0, 0)) ∧ Row wm ga (List.replicate N 0) ∧ Row wm gb (List.replicate N 0))
                  ⟨h2, store_far (store_far ku (show o ≠ w.heap.size + 2 by omega)) (show o ≠ w.heap.size + 3 by omega), store_far (store_far ra (show ga ≠ w.heap.size + 2 by omega)) (show ga ≠ w.heap.size + 3 by omega), store_far (store_far rb (show gb ≠ w.heap.size + 2 by omega)) (show gb ≠ w.heap.size + 3 by omega)⟩ ?_
                clear h ku ra rb hb1 h1 hb2 h2 fx fy qx qy q1 q2
                rintro wk ⟨h, ku, ra, rb⟩
                obtain ⟨M, hM⟩ : ∃ M, N + 1 = M := ⟨_, rfl⟩
                have eM : (N : Int) + 1 = (M : Int) := by omega
                have hMne : M ≠ y.outN := by rw [hN.out]; omega
                have hMle : M ≤ maxLen := by unfold maxLen; omega
                have hNle : N ≤ maxLen := by unfold maxLen; omega
                have hmkM := make_elems M (by omega)
                have hA9 := Lib.hid (fun (w : World) gn hT => tot_by9 (tadd_bad y q r (some ⟨ga, 0, none⟩) (some ⟨gn, 0, none⟩) N M N M 3 g1 ns hns 9 (fun w => merge_size y q r hgd.out (some ⟨ga, 0, none⟩) (some ⟨gn, 0, none⟩) N M N M 3 1 g1 (chk ns) (by decide) hNle hMle (.inr hMne) w) w hT : Calls Tryd.prog 25 #[.agg (tot (.slice (some ⟨ga, 0, none⟩) N N) 3 g1).toArray, .agg (tcl y q r).toArray, .agg (idc ns).toArray, .slice (some ⟨gn, 0, none⟩) M M] w _))
                have hM9 := Lib.hid (fun (w : World) gc => (merge_size y q r hgd.out (some ⟨ga, 0, none⟩) (some ⟨gc, 0, none⟩) N M N M 3 3 g1 g2 (by decide) hNle hMle (.inr hMne) w : Calls Tryd.prog 15 #[.agg (tot (.slice (some ⟨ga, 0, none⟩) N N) 3 g1).toArray, .agg (tcl y q r).toArray, .agg (tot (.slice (some ⟨gc, 0, none⟩) M M) 3 g2).toArray] w _))
                have hU9 := Lib.hid (fun (w : World) gc => (unshard_size y q r hgd.out (some ⟨ga, 0, none⟩) (some ⟨gc, 0, none⟩) N M N M 3 g1 hNle hMle (.inr hMne) w : Calls Tryd.prog 26 #[.agg (tcl y q r).toArray, .agg (tot (.slice (some ⟨ga, 0, none⟩) N N) 3 g1).toArray, .agg (tot (.slice (some ⟨gc, 0, none⟩) M M) 3 g1).toArray] w _))
                replace hM := Lib.hid hM
                clear hMne hMle hNle hmk
                go_cut [29] (fun v w' => v = .int .i64 9 ∧ TE w (tcl x p s) (s13 K F' B L W' C P T) (tot (.slice (some ⟨ga, 0, none⟩) N N) 3 g1) (tot (.slice (some ⟨gb, 0, none⟩) N N) 3 g2) (idc ns) w' ∧ w'.heap[o]? = some (.cells (tcl y q r).toArray 33 (0, 0)) ∧ Row w' ga (List.replicate N 0) ∧ Row w' gb (List.replicate N 0))
                case first =>
                  as_aux_lemma =>
                  refine segS_start (gb := fun k => k ≤ o) 13 (by kernel_rfl) (by decide) ?_
                  intro v0 hv
                  replace h := h.up hv
                  replace ku := keeps hv ku
                  replace ra := ra.up hv
                  replace rb := rb.up hv
                  try (replace rn := rn.up hv)
                  try (replace k7 := keeps hv k7)
                  clear hv
                  refine segS_batch 8 [0, 1, 2, 3, 4] (by kernel_rfl) rfl (by kernel_rfl) (by kernel_rfl) (by kernel_rfl) ?_
                  apply Exists.intro
                  refine ⟨fun ι _ φ hφ => ?_, fun v1 hv => ?_⟩
                  · repeat (refine pick_step rfl ?_; first
                      | (refine quiet_load_mid _ _ _ 0 _ _ rfl rfl rfl (mid_familyT hφ (At0.of_block h.kx) (by omega)) Tryd.underlying39 rfl (by rw [tot_len]; kernel_rfl) ?_; simp only [Act.put, List.setIfInBounds_toArray, List.set_cons_succ, List.set_cons_zero])
                      | (refine quiet_load_mid _ _ _ 0 _ _ rfl rfl rfl (mid_familyT hφ (At0.of_block ku) (Nat.le_refl _)) Tryd.underlying33 rfl (by kernel_rfl) ?_; simp only [Act.put, List.setIfInBounds_toArray, List.set_cons_succ, List.set_cons_zero])
                      | (refine quiet_load_mid _ _ _ 0 _ _ rfl rfl rfl (mid_familyT hφ (At0.of_block h.ki) (by omega)) Tryd.underlying51 rfl (by rw [hil.out]; kernel_rfl) ?_; simp only [Act.put, List.setIfInBounds_toArray, List.set_cons_succ, List.set_cons_zero])
                      | go_big_quiet_step (fail))
                    exact pick_end
                  replace h := h.up hv
                  replace ku := keeps hv ku
                  replace ra := ra.up hv
                  replace rb := rb.up hv
                  try (replace rn := rn.up hv)
                  try (replace k7 := keeps hv k7)
                  clear hv
                  refine segS_more [5, 10] (by kernel_rfl) (by decide) ?_
                  intro j hj
                  simp only [List.mem_cons, List.not_mem_nil, or_false] at hj
                  rcases hj with rfl | rfl
                  · refine ⟨by decide, _, rfl, ?_⟩
                    intro v2 K2 hv hK
                    replace h := h.up hv
                    replace ku := keeps hv ku
                    replace ra := ra.up hv
                    replace rb := rb.up hv
                    try (replace rn := rn.up hv)
                    try (replace k7 := keeps hv k7)
                    clear hv
                    replace hK := Lib.hid hK
                    go_simp
                    have hv := (Below.refl v2.heap.size v2).alloc (Nat.le_refl _) (.cells (ecells (List.replicate M 0)).toArray 65 (0, 0))
                    refine hK.out _ _ (HeldS.of_below hv) ?_
                    clear hK K2
                    have rn : Row (v2.alloc (.cells (ecells (List.replicate M 0)).toArray 65 (0, 0))) v2.heap.size (List.replicate M 0) := alloc_at rfl
                    replace h := h.up hv
                    replace ku := keeps hv ku
                    replace ra := ra.up hv
                    replace rb := rb.up hv
                    try (replace rn := rn.up hv)
                    try (replace k7 := keeps hv k7)
                    clear hv
                    generalize v2.alloc (.cells (ecells (List.replicate M 0)).toArray 65 (0, 0)) = v3 at *
                    generalize v2.heap.size = gn at *
                    refine segS_more [6, 10] (by kernel_rfl) (by decide) ?_
                    intro j hj
                    simp only [List.mem_cons, List.not_mem_nil, or_false] at hj
                    rcases hj with rfl | rfl
                    · refine ⟨by decide, _, rfl, ?_⟩
                      intro v2 K2 hv hK
                      replace h := h.up hv
                      replace ku := keeps hv ku
                      replace ra := ra.up hv
                      replace rb := rb.up hv
                      try (replace rn := rn.up hv)
                      try (replace k7 := keeps hv k7)
                      clear hv
                      have hA2 := Lib.hid (hA9.out v2 gn (hT.out.up h.hb))
                      replace hK := Lib.hid hK
                      go_simp
                      refine hA2.out.mono ?_
                      rintro e v3 ⟨V, rfl, hv, hVl, hV1⟩
                      refine hK.out _ _ (HeldS.of_below hv) ?_
                      clear hK K2 hA2
                      replace hVl := Lib.hid hVl
                      replace hV1 := Lib.hid hV1
                      replace h := h.up hv
                      replace ku := keeps hv ku
                      replace ra := ra.up hv
                      replace rb := rb.up hv
                      try (replace rn := rn.up hv)
                      try (replace k7 := keeps hv k7)
                      clear hv
                      clear rn
                      refine segS_batch 3 [7, 8, 9] (by kernel_rfl) rfl (by kernel_rfl) (by kernel_rfl) (by kernel_rfl) ?_
                      apply Exists.intro
                      refine ⟨fun ι _ φ hφ => ?_, fun v1 hv => ?_⟩
                      · repeat (refine pick_step rfl ?_; go_big_quiet_step (fail))
                        exact pick_end
                      replace h := h.up hv
                      replace ku := keeps hv ku
                      replace ra := ra.up hv
                      replace rb := rb.up hv
                      try (replace rn := rn.up hv)
                      try (replace k7 := keeps hv k7)
                      clear hv
                      refine segS_one 10 _ (by decide) rfl (by kernel_rfl) ?_
                      intro v2 K2 hv hK
                      replace h := h.up hv
                      replace ku := keeps hv ku
                      replace ra := ra.up hv
                      replace rb := rb.up hv
                      try (replace rn := rn.up hv)
                      try (replace k7 := keeps hv k7)
                      clear hv
                      replace hK := Lib.hid hK
                      go_simp
                      have hv := (Below.refl v2.heap.size v2).alloc (Nat.le_refl _) (.cells #[.slice none 0 0, .int .i64 0, .int .u8 0, .int .u8 0, .int .u8 0, .int .u8 0, .int .u8 0, .int .u8 0, .int .u8 0, .int .u8 0, .int .u8 0, .int .u8 0, .int .u8 0, .int .u8 0, .int .u8 0, .int .u8 0, .int .u8 0, .int .u8 0] 39 (0, 0))
                      refine hK.out _ _ (HeldS.of_below hv) ?_
                      clear hK K2
                      have k7 : (v2.alloc (.cells #[.slice none 0 0, .int .i64 0, .int .u8 0, .int .u8 0, .int .u8 0, .int .u8 0, .int .u8 0, .int .u8 0, .int .u8 0, .int .u8 0, .int .u8 0, .int .u8 0, .int .u8 0, .int .u8 0, .int .u8 0, .int .u8 0, .int .u8 0, .int .u8 0] 39 (0, 0))).heap[v2.heap.size]? = some (.cells noTot.toArray 39 (0, 0)) := alloc_at rfl
                      have hqw : w.heap.size ≤ v2.heap.size := h.hb.size
                      have hqo : o < v2.heap.size := lt_of_get ku
                      have hqa : ga < v2.heap.size := lt_of_get ra
                      have hqb : gb < v2.heap.size := lt_of_get rb
                      replace h := h.up hv
                      replace ku := keeps hv ku
                      replace ra := ra.up hv
                      replace rb := rb.up hv
                      try (replace rn := rn.up hv)
                      try (replace k7 := keeps hv k7)
                      clear hv
                      generalize v2.alloc (.cells #[.slice none 0 0, .int .i64 0, .int .u8 0, .int .u8 0, .int .u8 0, .int .u8 0, .int .u8 0, .int .u8 0, .int .u8 0, .int .u8 0, .int .u8 0, .int .u8 0, .int .u8 0, .int .u8 0, .int .u8 0, .int .u8 0, .int .u8 0, .int .u8 0] 39 (0, 0)) = v3 at *
                      generalize v2.heap.size = q7 at *
                      refine segS_one 11 _ (by decide) rfl (by kernel_rfl) ?_
                      intro vc K2 hv hK
                      replace h := h.up hv
                      replace ku := keeps hv ku
                      replace ra := ra.up hv
                      replace rb := rb.up hv
                      try (replace rn := rn.up hv)
                      try (replace k7 := keeps hv k7)
                      clear hv
                      replace hK := Lib.hid hK
                      have hbut : But q7 vc (vc.setCells q7 0 V) := (But.refl q7 vc).setCells V 0 vc
                      rw [if_pos (by kernel_rfl)]
                      refine wp_store_mid 39 _ _ rfl q7 0 V.toArray rfl rfl (fun j hj => ?_) (by simp only [List.size_toArray, hVl.out]; exact info_total) (by simpa using hV1.out) (hK.out _ _ ⟨hbut.os, hbut.tape, hbut.output, hbut.size, fun b hb hne => hbut.block b hb (by have : b ≤ o := hne; omega)⟩ ?_)
                      · have hj' : j < 18 := by rw [← hVl.out]; simpa using hj
                        simp [World.cell?, World.frozen?, k7]
                        exact hj'
                      have hlt := h.lt
                      replace ku := (hbut.block _ (lt_of_get ku) (by omega)).trans ku
                      replace ra : Row (vc.setCells q7 0 V) ga (List.replicate N 0) := (hbut.block _ (lt_of_get ra) (by omega)).trans ra
                      replace rb : Row (vc.setCells q7 0 V) gb (List.replicate N 0) := (hbut.block _ (lt_of_get rb) (by omega)).trans rb
                      replace h := h.farT hbut (by omega)
                      clear hK K2 hbut k7 hlt
                      generalize vc.setCells q7 0 V = vd at *
                      rw [put_noneT]
                      refine segS_batch 0 [12] (by kernel_rfl) rfl (by kernel_rfl) (by kernel_rfl) (by kernel_rfl) ?_
                      apply Exists.intro
                      refine ⟨fun ι _ φ hφ => ?_, fun v1 hv => ?_⟩
                      · repeat (refine pick_step rfl ?_; go_big_quiet_step (fail))
                        exact pick_end
                      replace h := h.up hv
                      replace ku := keeps hv ku
                      replace ra := ra.up hv
                      replace rb := rb.up hv
                      try (replace rn := rn.up hv)
                      try (replace k7 := keeps hv k7)
                      clear hv
                      refine segS_done rfl (by kernel_rfl) ?_
                      intro v5 hv
                      replace h := h.up hv
                      replace ku := keeps hv ku
                      replace ra := ra.up hv
                      replace rb := rb.up hv
                      try (replace rn := rn.up hv)
                      try (replace k7 := keeps hv k7)
                      clear hv
                      go_wp2
                      go_meet
                      exact ⟨rfl, h, ku, ra, rb⟩
                    · refine ⟨by decide, _, rfl, ?_⟩
                      intro v2 K2 hv hK
                      replace h := h.up hv
                      replace ku := keeps hv ku
                      replace ra := ra.up hv
                      replace rb := rb.up hv
                      try (replace rn := rn.up hv)
                      try (replace k7 := keeps hv k7)
                      clear hv
                      replace hK := Lib.hid hK
                      go_simp
                      have hv := (Below.refl v2.heap.size v2).alloc (Nat.le_refl _) (.cells #[.slice none 0 0, .int .i64 0, .int .u8 0, .int .u8 0, .int .u8 0, .int .u8 0, .int .u8 0, .int .u8 0, .int .u8 0, .int .u8 0, .int .u8 0, .int .u8 0, .int .u8 0, .int .u8 0, .int .u8 0, .int .u8 0, .int .u8 0, .int .u8 0] 39 (0, 0))
                      refine hK.out _ _ (HeldS.of_below hv) ?_
                      clear hK K2
                      have k7 : (v2.alloc (.cells #[.slice none 0 0, .int .i64 0, .int .u8 0, .int .u8 0, .int .u8 0, .int .u8 0, .int .u8 0, .int .u8 0, .int .u8 0, .int .u8 0, .int .u8 0, .int .u8 0, .int .u8 0, .int .u8 0, .int .u8 0, .int .u8 0, .int .u8 0, .int .u8 0] 39 (0, 0))).heap[v2.heap.size]? = some (.cells noTot.toArray 39 (0, 0)) := alloc_at rfl
                      have hqw : w.heap.size ≤ v2.heap.size := h.hb.size
                      have hqo : o < v2.heap.size := lt_of_get ku
                      have hqa : ga < v2.heap.size := lt_of_get ra
                      have hqb : gb < v2.heap.size := lt_of_get rb
                      replace h := h.up hv
                      replace ku := keeps hv ku
                      replace ra := ra.up hv
                      replace rb := rb.up hv
                      try (replace rn := rn.up hv)
                      try (replace k7 := keeps hv k7)
                      clear hv
                      generalize v2.alloc (.cells #[.slice none 0 0, .int .i64 0, .int .u8 0, .int .u8 0, .int .u8 0, .int .u8 0, .int .u8 0, .int .u8 0, .int .u8 0, .int .u8 0, .int .u8 0, .int .u8 0, .int .u8 0, .int .u8 0, .int .u8 0, .int .u8 0, .int .u8 0, .int .u8 0] 39 (0, 0)) = v3 at *
                      generalize v2.heap.size = q7 at *
                      refine segS_one 6 _ (by decide) rfl (by kernel_rfl) ?_
                      intro v2 K2 hv hK
                      replace h := h.up hv
                      replace ku := keeps hv ku
                      replace ra := ra.up hv
                      replace rb := rb.up hv
                      try (replace rn := rn.up hv)
                      try (replace k7 := keeps hv k7)
                      clear hv
                      have hA2 := Lib.hid (hA9.out v2 gn (hT.out.up h.hb))
                      replace hK := Lib.hid hK
                      go_simp
                      refine hA2.out.mono ?_
                      rintro e v3 ⟨V, rfl, hv, hVl, hV1⟩
                      refine hK.out _ _ (HeldS.of_below hv) ?_
                      clear hK K2 hA2
                      replace hVl := Lib.hid hVl
                      replace hV1 := Lib.hid hV1
                      replace h := h.up hv
                      replace ku := keeps hv ku
                      replace ra := ra.up hv
                      replace rb := rb.up hv
                      try (replace rn := rn.up hv)
                      try (replace k7 := keeps hv k7)
                      clear hv
                      clear rn
                      refine segS_batch 2 [7, 8, 9] (by kernel_rfl) rfl (by kernel_rfl) (by kernel_rfl) (by kernel_rfl) ?_
                      apply Exists.intro
                      refine ⟨fun ι _ φ hφ => ?_, fun v1 hv => ?_⟩
                      · repeat (refine pick_step rfl ?_; go_big_quiet_step (fail))
                        exact pick_end
                      replace h := h.up hv
                      replace ku := keeps hv ku
                      replace ra := ra.up hv
                      replace rb := rb.up hv
                      try (replace rn := rn.up hv)
                      try (replace k7 := keeps hv k7)
                      clear hv
                      refine segS_one 11 _ (by decide) rfl (by kernel_rfl) ?_
                      intro vc K2 hv hK
                      replace h := h.up hv
                      replace ku := keeps hv ku
                      replace ra := ra.up hv
                      replace rb := rb.up hv
                      try (replace rn := rn.up hv)
                      try (replace k7 := keeps hv k7)
                      clear hv
                      replace hK := Lib.hid hK
                      have hbut : But q7 vc (vc.setCells q7 0 V) := (But.refl q7 vc).setCells V 0 vc
                      rw [if_pos (by kernel_rfl)]
                      refine wp_store_mid 39 _ _ rfl q7 0 V.toArray rfl rfl (fun j hj => ?_) (by simp only [List.size_toArray, hVl.out]; exact info_total) (by simpa using hV1.out) (hK.out _ _ ⟨hbut.os, hbut.tape, hbut.output, hbut.size, fun b hb hne => hbut.block b hb (by have : b ≤ o := hne; omega)⟩ ?_)
                      · have hj' : j < 18 := by rw [← hVl.out]; simpa using hj
                        simp [World.cell?, World.frozen?, k7]
                        exact hj'
                      have hlt := h.lt
                      replace ku := (hbut.block _ (lt_of_get ku) (by omega)).trans ku
                      replace ra : Row (vc.setCells q7 0 V) ga (List.replicate N 0) := (hbut.block _ (lt_of_get ra) (by omega)).trans ra
                      replace rb : Row (vc.setCells q7 0 V) gb (List.replicate N 0) := (hbut.block _ (lt_of_get rb) (by omega)).trans rb
                      replace h := h.farT hbut (by omega)
                      clear hK K2 hbut k7 hlt
                      generalize vc.setCells q7 0 V = vd at *
                      rw [put_noneT]
                      refine segS_batch 0 [12] (by kernel_rfl) rfl (by kernel_rfl) (by kernel_rfl) (by kernel_rfl) ?_
                      apply Exists.intro
                      refine ⟨fun ι _ φ hφ => ?_, fun v1 hv => ?_⟩
                      · repeat (refine pick_step rfl ?_; go_big_quiet_step (fail))
                        exact pick_end
                      replace h := h.up hv
                      replace ku := keeps hv ku
                      replace ra := ra.up hv
                      replace rb := rb.up hv
                      try (replace rn := rn.up hv)
                      try (replace k7 := keeps hv k7)
                      clear hv
                      refine segS_done rfl (by kernel_rfl) ?_
                      intro v5 hv
                      replace h := h.up hv
                      replace ku := keeps hv ku
                      replace ra := ra.up hv
                      replace rb := rb.up hv
                      try (replace rn := rn.up hv)
                      try (replace k7 := keeps hv k7)
                      clear hv
                      go_wp2
                      go_meet
                      exact ⟨rfl, h, ku, ra, rb⟩
                  · refine ⟨by decide, _, rfl, ?_⟩
                    intro v2 K2 hv hK
                    replace h := h.up hv
                    replace ku := keeps hv ku
                    replace ra := ra.up hv
                    replace rb := rb.up hv
                    try (replace rn := rn.up hv)
                    try (replace k7 := keeps hv k7)
                    clear hv
                    replace hK := Lib.hid hK
                    go_simp
                    have hv := (Below.refl v2.heap.size v2).alloc (Nat.le_refl _) (.cells #[.slice none 0 0, .int .i64 0, .int .u8 0, .int .u8 0, .int .u8 0, .int .u8 0, .int .u8 0, .int .u8 0, .int .u8 0, .int .u8 0, .int .u8 0, .int .u8 0, .int .u8 0, .int .u8 0, .int .u8 0, .int .u8 0, .int .u8 0, .int .u8 0] 39 (0, 0))
                    refine hK.out _ _ (HeldS.of_below hv) ?_
                    clear hK K2
                    have k7 : (v2.alloc (.cells #[.slice none 0 0, .int .i64 0, .int .u8 0, .int .u8 0, .int .u8 0, .int .u8 0, .int .u8 0, .int .u8 0, .int .u8 0, .int .u8 0, .int .u8 0, .int .u8 0, .int .u8 0, .int .u8 0, .int .u8 0, .int .u8 0, .int .u8 0, .int .u8 0] 39 (0, 0))).heap[v2.heap.size]? = some (.cells noTot.toArray 39 (0, 0)) := alloc_at rfl
                    have hqw : w.heap.size ≤ v2.heap.size := h.hb.size
                    have hqo : o < v2.heap.size := lt_of_get ku
                    have hqa : ga < v2.heap.size := lt_of_get ra
                    have hqb : gb < v2.heap.size := lt_of_get rb
                    replace h := h.up hv
                    replace ku := keeps hv ku
                    replace ra := ra.up hv
                    replace rb := rb.up hv
                    try (replace rn := rn.up hv)
                    try (replace k7 := keeps hv k7)
                    clear hv
                    generalize v2.alloc (.cells #[.slice none 0 0, .int .i64 0, .int .u8 0, .int .u8 0, .int .u8 0, .int .u8 0, .int .u8 0, .int .u8 0, .int .u8 0, .int .u8 0, .int .u8 0, .int .u8 0, .int .u8 0, .int .u8 0, .int .u8 0, .int .u8 0, .int .u8 0, .int .u8 0] 39 (0, 0)) = v3 at *
                    generalize v2.heap.size = q7 at *
                    refine segS_one 5 _ (by decide) rfl (by kernel_rfl) ?_
                    intro v2 K2 hv hK
                    replace h := h.up hv
                    replace ku := keeps hv ku
                    replace ra := ra.up hv
                    replace rb := rb.up hv
                    try (replace rn := rn.up hv)
                    try (replace k7 := keeps hv k7)
                    clear hv
                    replace hK := Lib.hid hK
                    go_simp
                    have hv := (Below.refl v2.heap.size v2).alloc (Nat.le_refl _) (.cells (ecells (List.replicate M 0)).toArray 65 (0, 0))
                    refine hK.out _ _ (HeldS.of_below hv) ?_
                    clear hK K2
                    have rn : Row (v2.alloc (.cells (ecells (List.replicate M 0)).toArray 65 (0, 0))) v2.heap.size (List.replicate M 0) := alloc_at rfl
                    replace h := h.up hv
                    replace ku := keeps hv ku
                    replace ra := ra.up hv
                    replace rb := rb.up hv
                    try (replace rn := rn.up hv)
                    try (replace k7 := keeps hv k7)
                    clear hv
                    generalize v2.alloc (.cells (ecells (List.replicate M 0)).toArray 65 (0, 0)) = v3 at *
                    generalize v2.heap.size = gn at *
                    refine segS_one 6 _ (by decide) rfl (by kernel_rfl) ?_
                    intro v2 K2 hv hK
                    replace h := h.up hv
                    replace ku := keeps hv ku
                    replace ra := ra.up hv
                    replace rb := rb.up hv
                    try (replace rn := rn.up hv)
                    try (replace k7 := keeps hv k7)
                    clear hv
                    have hA2 := Lib.hid (hA9.out v2 gn (hT.out.up h.hb))
                    replace hK := Lib.hid hK
                    go_simp
                    refine hA2.out.mono ?_
                    rintro e v3 ⟨V, rfl, hv, hVl, hV1⟩
                    refine hK.out _ _ (HeldS.of_below hv) ?_
                    clear hK K2 hA2
                    replace hVl := Lib.hid hVl
                    replace hV1 := Lib.hid hV1
                    replace h := h.up hv
                    replace ku := keeps hv ku
                    replace ra := ra.up hv
                    replace rb := rb.up hv
                    try (replace rn := rn.up hv)
                    try (replace k7 := keeps hv k7)
                    clear hv
                    clear rn
                    refine segS_batch 2 [7, 8, 9] (by kernel_rfl) rfl (by kernel_rfl) (by kernel_rfl) (by kernel_rfl) ?_
                    apply Exists.intro
                    refine ⟨fun ι _ φ hφ => ?_, fun v1 hv => ?_⟩
                    · repeat (refine pick_step rfl ?_; go_big_quiet_step (fail))
                      exact pick_end
                    replace h := h.up hv
                    replace ku := keeps hv ku
                    replace ra := ra.up hv
                    replace rb := rb.up hv
                    try (replace rn := rn.up hv)
                    try (replace k7 := keeps hv k7)
                    clear hv
                    refine segS_one 11 _ (by decide) rfl (by kernel_rfl) ?_
                    intro vc K2 hv hK
                    replace h := h.up hv
                    replace ku := keeps hv ku
                    replace ra := ra.up hv
                    replace rb := rb.up hv
                    try (replace rn := rn.up hv)
                    try (replace k7 := keeps hv k7)
                    clear hv
                    replace hK := Lib.hid hK
                    have hbut : But q7 vc (vc.setCells q7 0 V) := (But.refl q7 vc).setCells V 0 vc
                    rw [if_pos (by kernel_rfl)]
                    refine wp_store_mid 39 _ _ rfl q7 0 V.toArray rfl rfl (fun j hj => ?_) (by simp only [List.size_toArray, hVl.out]; exact info_total) (by simpa using hV1.out) (hK.out _ _ ⟨hbut.os, hbut.tape, hbut.output, hbut.size, fun b hb hne => hbut.block b hb (by have : b ≤ o := hne; omega)⟩ ?_)
                    · have hj' : j < 18 := by rw [← hVl.out]; simpa using hj
                      simp [World.cell?, World.frozen?, k7]
                      exact hj'
                    have hlt := h.lt
                    replace ku := (hbut.block _ (lt_of_get ku) (by omega)).trans ku
                    replace ra : Row (vc.setCells q7 0 V) ga (List.replicate N 0) := (hbut.block _ (lt_of_get ra) (by omega)).trans ra
                    replace rb : Row (vc.setCells q7 0 V) gb (List.replicate N 0) := (hbut.block _ (lt_of_get rb) (by omega)).trans rb
                    replace h := h.farT hbut (by omega)
                    clear hK K2 hbut k7 hlt
                    generalize vc.setCells q7 0 V = vd at *
                    rw [put_noneT]
                    refine segS_batch 0 [12] (by kernel_rfl) rfl (by kernel_rfl) (by kernel_rfl) (by kernel_rfl) ?_
                    apply Exists.intro
                    refine ⟨fun ι _ φ hφ => ?_, fun v1 hv => ?_⟩
                    · repeat (refine pick_step rfl ?_; go_big_quiet_step (fail))
                      exact pick_end
                    replace h := h.up hv
                    replace ku := keeps hv ku
                    replace ra := ra.up hv
                    replace rb := rb.up hv
                    try (replace rn := rn.up hv)
                    try (replace k7 := keeps hv k7)
                    clear hv
                    refine segS_done rfl (by kernel_rfl) ?_
                    intro v5 hv
                    replace h := h.up hv
                    replace ku := keeps hv ku
                    replace ra := ra.up hv
                    replace rb := rb.up hv
                    try (replace rn := rn.up hv)
                    try (replace k7 := keeps hv k7)
                    clear hv
                    go_wp2
                    go_meet
                    exact ⟨rfl, h, ku, ra, rb⟩
                case rest =>
                  obtain ⟨rfl, h', ku', -, -⟩ := hcut
                  clear h ku ra rb hA9
                  have h := h'
                  have ku := ku'
                  clear h' ku'
                  have qy0 := At0.of_block h.ky 0 (.slice (some ⟨gb, 0, none⟩) N N) rfl
                  simp only [Nat.zero_add] at qy0
                  have fy : (wc.alloc (.cells (ecells (List.replicate M 0)).toArray 65 (0, 0))).frozen? ⟨w.heap.size + 1 + 1 + 1, 0, none⟩ = false := by
                    have := alloc_keeps (o := .cells (ecells (List.replicate M 0)).toArray 65 (0, 0)) h.ky
                    simp [World.frozen?, this]
                  have qy : (wc.alloc (.cells (ecells (List.replicate M 0)).toArray 65 (0, 0))).cell? ⟨w.heap.size + 1 + 1 + 1, 0, none⟩ = some (.slice (some ⟨gb, 0, none⟩) N N) := (((Below.refl _ _).alloc (Nat.le_refl _) _).cell (World.block_lt_of_cell? _ _ qy0)).trans qy0
                  go_upto_region 29 with (fail)
                  have hvA := (Below.refl wc.heap.size wc).alloc (Nat.le_refl _) (.cells (ecells (List.replicate M 0)).toArray 65 (0, 0))
                  have hA := h.up hvA
                  have hbA : But (w.heap.size + 3) (wc.alloc (.cells (ecells (List.replicate M 0)).toArray 65 (0, 0))) ((wc.alloc (.cells (ecells (List.replicate M 0)).toArray 65 (0, 0))).setCell ⟨w.heap.size + 3, 0, none⟩ (.slice (some ⟨wc.heap.size, 0, none⟩) M M)) := (But.refl _ _).set _
                  have h2 : TE w (tcl x p s) (s13 K F' B L W' C P T) (tot (.slice (some ⟨ga, 0, none⟩) N N) 3 g1) (tot (.slice (some ⟨wc.heap.size, 0, none⟩) M M) 3 g2) (idc ns) ((wc.alloc (.cells (ecells (List.replicate M 0)).toArray 65 (0, 0))).setCell ⟨w.heap.size + 3, 0, none⟩ (.slice (some ⟨wc.heap.size, 0, none⟩) M M)) := hA.setY hbA (by rw [store1 hA.ky, tot_S])
                  refine name_wp (fun wm => TE w (tcl x p s) (s13 K F' B L W' C P T) (tot (.slice (some ⟨ga, 0, none⟩) N N) 3 g1) (tot (.slice (some ⟨wc.heap.size, 0, none⟩) M M) 3 g2) (idc ns) wm ∧ wm.heap[o]? = some (.cells (tcl y q r).toArray 33 (0, 0)))
                    ⟨h2, store_far (alloc_keeps ku) (show o ≠ w.heap.size + 3 by omega)⟩ ?_
                  clear h ku h2 hbA hA hvA fy qy qy0 hmkM
                  generalize wc.heap.size = gc at *
                  rintro wl ⟨h, ku⟩
                  go_wp2_with (first
                    | (refine list_load_mid _ _ _ 0 _ _ rfl rfl rfl (At0.of_block ku) Tryd.underlying33 rfl (by kernel_rfl) ?_)
                    | (refine list_load_mid _ _ _ 0 _ _ rfl rfl rfl (At0.of_block h.kx) Tryd.underlying39 rfl (by rw [tot_len]; kernel_rfl) ?_)
                    | (refine list_load_mid _ _ _ 0 _ _ rfl rfl rfl (At0.of_block h.ky) Tryd.underlying39 rfl (by rw [tot_len]; kernel_rfl) ?_))
                  refine call_then (hM9.out _ gc) ?_
                  intro wn hv
                  replace h := h.up hv
                  replace ku := keeps hv ku
                  clear hv hM9
                  go_upto_region 30 with (first
                    | (refine list_store_whole _ _ _ _ noTot noTot 39 rfl rfl rfl rfl (alloc_at rfl) rfl (by kernel_rfl) hone.out ?_; intro wm hbut kr))
                  replace h := h.new hbut
                  replace ku := new_keeps ku hbut
                  clear hbut kr
                  generalize wn.heap.size = o3 at *
                  have hcx := sub_range (At0.of_block h.kx) 2 _ (tot_chk _ _ _)
                  have hc1 := one_arr8 g1 16
                  have hky := h.ky
                  go_upto_region 31 with (first
                    | (refine list_load_mid _ _ _ 2 _ _ rfl rfl rfl hcx Tryd.underlying37 rfl (by rw [arr8_len]; kernel_rfl) ?_)
                    | (refine list_store_midT _ _ _ (w.heap.size + 3) 2 (arr8 g1 16) (tot (.slice (some ⟨gc, 0, none⟩) M M) 3 g2) (tot (.slice (some ⟨gc, 0, none⟩) M M) 3 g1) 39 rfl rfl rfl rfl hky (by rw [arr8_len, tot_len]; decide) (by rw [arr8_len]; kernel_rfl) hc1 (set_chk _ _ _ _) ?_; intro wm hbut kr))
                  replace h := h.setY hbut kr
                  replace ku := (hbut.block _ (lt_of_get ku) (by omega)).trans ku
                  clear hbut kr hcx hc1 hky
                  go_wp2_with (first
                    | (refine list_load_mid _ _ _ 0 _ _ rfl rfl rfl (At0.of_block ku) Tryd.underlying33 rfl (by kernel_rfl) ?_)
                    | (refine list_load_mid _ _ _ 0 _ _ rfl rfl rfl (At0.of_block h.kx) Tryd.underlying39 rfl (by rw [tot_len]; kernel_rfl) ?_)
                    | (refine list_load_mid _ _ _ 0 _ _ rfl rfl rfl (At0.of_block h.ky) Tryd.underlying39 rfl (by rw [tot_len]; kernel_rfl) ?_))
                  refine call_then (hU9.out _ gc) ?_
                  intro wn hv
                  replace h := h.up hv
                  clear hv hU9 ku
                  go_wp2
                  go_ret
                  exact ⟨rfl, h.hb⟩
end Go.Proofs.YtpojhomccmfffaaDoor
