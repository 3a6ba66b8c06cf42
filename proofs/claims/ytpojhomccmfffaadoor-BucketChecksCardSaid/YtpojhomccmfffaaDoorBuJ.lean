/-
  BucketChecks: its walk.
-/
import Derived.Test.YtpojhomccmfffaaDoorBuH
namespace Go.Proofs.YtpojhomccmfffaaDoor
open Go.RowKit Flow F
set_option linter.unusedVariables false
set_option linter.unusedSimpArgs false

theorem two_tasks {w : World} {g k : Nat} {A B : List Value} {t : TypeId} (hA : A.length = 8) (h : w.heap[g]? = some (.cells (A ++ B).toArray t (0, 0))) (hk : k < 2) : w.rangeAt g (k * 8) (if k = 0 then A else B) := fun j v hj => by
  have g := At0.of_block (cs := A ++ B) h
  have hk2 : k = 0 ∨ k = 1 := by omega
  rcases hk2 with rfl | rfl
  · rw [if_pos rfl] at hj
    have := g j v (by rw [List.getElem?_append_left (List.getElem?_eq_some_iff.1 hj).1]; exact hj)
    simpa using this
  · rw [if_neg (by decide)] at hj
    have := g (8 + j) v (by rw [List.getElem?_append_right (by omega), hA, Nat.add_sub_cancel_left]; exact hj)
    simpa using this
set_option maxRecDepth 20000 in
set_option maxHeartbeats 8000000 in
theorem checks_walk (W mn mx : Int) (x : Ci) (p : Int) (s : ByteArray) (hs : (s.size : Int) ≤ 9223372036854775807) (K F' B L W' C P T : Int) (k0 : 0 ≤ K) (k1 : K ≤ 255) (f0 : 0 ≤ F') (f1 : F' ≤ 255) (b0 : 0 ≤ B) (b1 : B ≤ 255) (l0 : 0 ≤ L) (l1 : L ≤ 255) (w0 : 0 ≤ W') (w1 : W' ≤ 255) (c0 : 0 ≤ C) (c1 : C ≤ 255) (p0 : 0 ≤ P) (p1 : P ≤ 255) (t0 : 0 ≤ T) (t1 : T ≤ 255) (w : World) (hT : Tabs w) :
    Calls Tryd.prog 8 #[.agg #[.int .u64 W, .int .i64 mn, .int .i64 mx], .agg (tcl x p s).toArray, .agg (s13 K F' B L W' C P T).toArray] w fun e w' => e = .returned (.bool true) ∧ Below w.heap.size w w' := by
  have hS := fun w => task_any K F' B L W' C P T k0 k1 f0 f1 b0 b1 l0 l1 w0 w1 c0 c1 p0 p1 t0 t1 w
  have hs2 : ((tagB (T % 3)).size : Int) ≤ 9223372036854775807 := by have := tagB_le (T % 3); omega
  unfold tvl at hS
  generalize smallC K F' B L W' C = x2 at *
  generalize 1 + P % 3 = p2 at *
  generalize tagB (T % 3) = s2 at *
  clear k0 k1 f0 f1 b0 b1 l0 l1 w0 w1 c0 c1 p0 p1 t0 t1
  replace hS := Lib.hid hS
  replace hT := Lib.hid hT
  go_enter Tryd.func8, Tryd.ntmps8
  go_upto_region 1 with (fail)
  refine name_wp (fun w1 => Below w.heap.size w w1 ∧ w1.heap.size = w.heap.size + 3 ∧ w1.heap[w.heap.size]? = some (.cells (rul W mn mx).toArray 80 (0, 0)) ∧ w1.heap[w.heap.size + 1]? = some (.cells (tcl x p s).toArray 33 (0, 0)) ∧ w1.heap[w.heap.size + 2]? = some (.cells (s13 K F' B L W' C P T).toArray 25 (0, 0)))
    ⟨(((Below.refl _ _).alloc (Nat.le_refl _) _).alloc (by simp) _).alloc (by simp; omega) _, by simp, alloc_keeps (alloc_keeps (alloc_at rfl)), alloc_keeps (alloc_at (by simp)), alloc_at (by simp)⟩ ?_
  rintro w1 ⟨hb, hsz, k0, k1, k2⟩
  have hA1 := Lib.hid (bawake_ok w1 (hT.out.up hb))
  go_wp2_with fail
  refine call_then hA1.out ?_
  intro w2 hv
  replace k0 := keeps hv k0
  replace k1 := keeps hv k1
  replace k2 := keeps hv k2
  replace hb := below_next hb (by omega) hv
  clear hv hA1 hsz
  go_wp2
  refine segS_start (gb := fun _ => True) 6 (by kernel_rfl) (by decide) ?_
  intro v0 hv
  replace k0 := keeps hv k0
  replace k1 := keeps hv k1
  replace k2 := keeps hv k2
  replace hb := below_next hb hb.size hv
  clear hv
  refine segS_batch 2 [0, 1, 2, 5] (by kernel_rfl) rfl (by kernel_rfl) (by kernel_rfl) (by kernel_rfl) ?_
  apply Exists.intro
  refine ⟨fun ι _ φ hφ => ?_, fun v1 hv => ?_⟩
  · repeat (refine pick_step rfl ?_; first
      | (refine quiet_load_mid _ _ _ 0 _ _ rfl rfl rfl (mid_familyT hφ (At0.of_block k1) trivial) Tryd.underlying33 rfl (by kernel_rfl) ?_; simp only [Act.put, List.setIfInBounds_toArray, List.set_cons_succ, List.set_cons_zero])
      | (refine quiet_load_mid _ _ _ 0 _ _ rfl rfl rfl (mid_familyT hφ (At0.of_block k2) trivial) Tryd.underlying25 rfl (by kernel_rfl) ?_; simp only [Act.put, List.setIfInBounds_toArray, List.set_cons_succ, List.set_cons_zero])
      | go_big_quiet_step ((go_at_call 12; exact flowS_call hφ (hS.out _))))
    exact pick_end
  replace k0 := keeps hv k0
  replace hb := below_next hb hb.size hv
  clear hv k1 k2 hS
  refine segS_one 3 _ (by decide) rfl (by kernel_rfl) ?_
  intro v2 K2 hv hK
  replace k0 := keeps hv k0
  replace hb := below_next hb hb.size hv
  clear hv
  replace hK := Lib.hid hK
  unfold tcl
  go_simp
  refine hK.out _ _ (HeldS.of_below ((Below.refl v2.heap.size v2).alloc (Nat.le_refl _) _)) ?_
  clear hK K2
  have hv := (Below.refl v2.heap.size v2).alloc (Nat.le_refl _) (.cells (tcl x p s ++ tcl x2 p2 s2).toArray 33 (0, 0))
  have kg := alloc_at (w := v2) (k := v2.heap.size) (o := (.cells (tcl x p s ++ tcl x2 p2 s2).toArray 33 (0, 0))) rfl
  replace k0 := keeps hv k0
  replace hb := below_next hb hb.size hv
  clear hv
  change SegS _ _ _ _ _ _ _ _ (v2.alloc (.cells (tcl x p s ++ tcl x2 p2 s2).toArray 33 (0, 0)))
  generalize v2.alloc (.cells (tcl x p s ++ tcl x2 p2 s2).toArray 33 (0, 0)) = v3 at *
  generalize v2.heap.size = g at *
  refine segS_batch 0 [4] (by kernel_rfl) rfl (by kernel_rfl) (by kernel_rfl) (by kernel_rfl) ?_
  apply Exists.intro
  refine ⟨fun ι _ φ hφ => ?_, fun v1 hv => ?_⟩
  · repeat (refine pick_step rfl ?_; go_big_quiet_step (fail))
    exact pick_end
  replace kg := keeps hv kg
  replace k0 := keeps hv k0
  replace hb := below_next hb hb.size hv
  clear hv
  refine segS_done rfl (by kernel_rfl) ?_
  intro v5 hv
  replace kg := keeps hv kg
  replace k0 := keeps hv k0
  replace hb := below_next hb hb.size hv
  clear hv
  go_wp2
  go_loopw [19] (fun i wr => ∃ k : Nat, k ≤ 2 ∧ i = .int .i64 (k : Int) ∧ Below w.heap.size w wr ∧ wr.heap[w.heap.size]? = some (.cells (rul W mn mx).toArray 80 (0, 0)) ∧ wr.heap[g]? = some (.cells (tcl x p s ++ tcl x2 p2 s2).toArray 33 (0, 0))) (fun i _ => 2 - (intOf i).toNat)
  case atStart => exact ⟨0, by omega, rfl, hb, k0, kg⟩
  case round =>
    clear hb kg k0
    obtain ⟨k, hk, rfl, hb, k0, kg⟩ := hrel
    by_cases hlt : k < 2
    · have hm := two_tasks (A := tcl x p s) (B := tcl x2 p2 s2) rfl kg hlt
      obtain ⟨y, q, r, hmid, hr⟩ : ∃ (y : Ci) (q : Int) (r : ByteArray), wr.rangeAt g (k * 8) (tcl y q r) ∧ (r.size : Int) ≤ 9223372036854775807 := by
        by_cases hk0 : k = 0
        · rw [if_pos hk0] at hm
          exact ⟨x, p, s, hm, hs⟩
        · rw [if_neg hk0] at hm
          exact ⟨x2, p2, s2, hm, hs2⟩
      clear hm
      have i0 : (0 : Int) ≤ (k : Int) := by omega
      have i1 : (k : Int) < 2 := by omega
      have hC := fun w => (tcheck_any y q r hr w : Calls Tryd.prog 31 #[.agg (tcl y q r).toArray] w _)
      have hR := fun w => (rulc_any y q r hr W mn mx w : Calls Tryd.prog 36 #[.agg (rul W mn mx).toArray, .agg (tcl y q r).toArray] w _)
      have hNb := fun hbad w => (bnew_bad y q r hr W mn mx hbad w : Calls Tryd.prog 35 #[.agg (tcl y q r).toArray, .agg (rul W mn mx).toArray] w _)
      have hNo := fun hok w => (bnew_ok y q r hr W mn mx hok w : Calls Tryd.prog 35 #[.agg (tcl y q r).toArray, .agg (rul W mn mx).toArray] w _)
      clear hr
      by_cases ht : tcode y q r = 0
      · rw [ht] at hC
        replace hC := Lib.hid hC
        have hrc : rcode y q r W mn mx = if rbad W mn mx = true then 6 else 0 := by unfold rcode; rw [if_pos ht]
        cases hrb : rbad W mn mx with
        | true =>
          rw [hrb, if_pos rfl] at hrc
          have hN := Lib.hid (hNb (by rw [hrc]; decide))
          rw [hrc] at hN hR
          replace hR := Lib.hid hR
          clear hNb hNo ht hrc
          unfold rbad at hrb
          cases b1 : decide (W < 1) with
          | true =>
            clear hrb
            replace hR := hR
            go_upto_region 6 with (first
              | (refine list_load_mid _ _ _ (k * 8) _ _ rfl rfl rfl hmid Tryd.underlying33 rfl (by kernel_rfl) ?_)
              | (refine list_store_whole _ _ _ _ (tcl y q r) (tcl ⟨0, 0, 0, 0, 0, 0⟩ 0 ⟨#[]⟩) 33 rfl rfl rfl rfl (alloc_at rfl) rfl (by kernel_rfl) (one_tcl _ _ _) ?_; intro w7 hbut kx))
            have hbA := hb.alloc hb.size (.cells (tcl ⟨0, 0, 0, 0, 0, 0⟩ 0 ⟨#[]⟩).toArray 33 (0, 0))
            have hlk := lt_of_get k0
            have hlg := lt_of_get kg
            replace k0 : w7.heap[w.heap.size]? = some (.cells (rul W mn mx).toArray 80 (0, 0)) := (hbut.block _ (by simp; omega) (by omega)).trans (alloc_keeps k0)
            replace kg : w7.heap[g]? = some (.cells (tcl x p s ++ tcl x2 p2 s2).toArray 33 (0, 0)) := (hbut.block _ (by simp; omega) (by omega)).trans (alloc_keeps kg)
            replace hb := hbut.below hbA hb.size hbA.size
            clear hbut hbA hmid hlk hlg
            generalize wr.heap.size = o at *
            go_wp2_with (first
              | (refine list_load_mid _ _ _ 0 _ _ rfl rfl rfl (At0.of_block kx) Tryd.underlying33 rfl (by kernel_rfl) ?_))
            refine call_then (hC.out _) ?_
            intro w8 hv
            replace k0 := keeps hv k0
            replace kg := keeps hv kg
            replace kx := keeps hv kx
            replace hb := below_next hb hb.size hv
            clear hv hC
            have a0 := At0.of_block k0 0 (.int .u64 W) rfl
            have a1 := At0.of_block k0 1 (.int .i64 mn) rfl
            have a2 := At0.of_block k0 2 (.int .i64 mx) rfl
            simp only [Nat.zero_add] at a0 a1 a2
            go_upto_region 9 with (fail)
            go_wp2_with (first
              | (refine list_load_mid _ _ _ 0 _ _ rfl rfl rfl (At0.of_block kx) Tryd.underlying33 rfl (by kernel_rfl) ?_)
              | (refine list_load_mid _ _ _ 0 _ _ rfl rfl rfl (At0.of_block k0) Tryd.underlying80 rfl (by kernel_rfl) ?_))
            refine call_then (hN.out _) ?_; intro wn hv
            replace k0 := keeps hv k0
            replace kg := keeps hv kg
            replace kx := keeps hv kx
            replace hb := below_next hb hb.size hv
            clear hv hN
            go_wp2_with (first
              | (refine list_load_mid _ _ _ 0 _ _ rfl rfl rfl (At0.of_block kx) Tryd.underlying33 rfl (by kernel_rfl) ?_)
              | (refine list_load_mid _ _ _ 0 _ _ rfl rfl rfl (At0.of_block k0) Tryd.underlying80 rfl (by kernel_rfl) ?_))
            refine call_then (hR.out _) ?_
            intro w9 hv
            replace k0 := keeps hv k0
            replace kg := keeps hv kg
            replace hb := below_next hb hb.size hv
            clear hv hR kx
            go_wp2
            exact ⟨⟨k + 1, by omega, by go_num, hb, k0, kg⟩, left_2 hlt⟩
          | false =>
            cases b2 : decide (W > 1099511627776) with
            | true =>
              clear hrb
              replace hR := hR
              go_upto_region 6 with (first
                | (refine list_load_mid _ _ _ (k * 8) _ _ rfl rfl rfl hmid Tryd.underlying33 rfl (by kernel_rfl) ?_)
                | (refine list_store_whole _ _ _ _ (tcl y q r) (tcl ⟨0, 0, 0, 0, 0, 0⟩ 0 ⟨#[]⟩) 33 rfl rfl rfl rfl (alloc_at rfl) rfl (by kernel_rfl) (one_tcl _ _ _) ?_; intro w7 hbut kx))
              have hbA := hb.alloc hb.size (.cells (tcl ⟨0, 0, 0, 0, 0, 0⟩ 0 ⟨#[]⟩).toArray 33 (0, 0))
              have hlk := lt_of_get k0
              have hlg := lt_of_get kg
              replace k0 : w7.heap[w.heap.size]? = some (.cells (rul W mn mx).toArray 80 (0, 0)) := (hbut.block _ (by simp; omega) (by omega)).trans (alloc_keeps k0)
              replace kg : w7.heap[g]? = some (.cells (tcl x p s ++ tcl x2 p2 s2).toArray 33 (0, 0)) := (hbut.block _ (by simp; omega) (by omega)).trans (alloc_keeps kg)
              replace hb := hbut.below hbA hb.size hbA.size
              clear hbut hbA hmid hlk hlg
              generalize wr.heap.size = o at *
              go_wp2_with (first
                | (refine list_load_mid _ _ _ 0 _ _ rfl rfl rfl (At0.of_block kx) Tryd.underlying33 rfl (by kernel_rfl) ?_))
              refine call_then (hC.out _) ?_
              intro w8 hv
              replace k0 := keeps hv k0
              replace kg := keeps hv kg
              replace kx := keeps hv kx
              replace hb := below_next hb hb.size hv
              clear hv hC
              have a0 := At0.of_block k0 0 (.int .u64 W) rfl
              have a1 := At0.of_block k0 1 (.int .i64 mn) rfl
              have a2 := At0.of_block k0 2 (.int .i64 mx) rfl
              simp only [Nat.zero_add] at a0 a1 a2
              go_upto_region 9 with (fail)
              go_wp2_with (first
                | (refine list_load_mid _ _ _ 0 _ _ rfl rfl rfl (At0.of_block kx) Tryd.underlying33 rfl (by kernel_rfl) ?_)
                | (refine list_load_mid _ _ _ 0 _ _ rfl rfl rfl (At0.of_block k0) Tryd.underlying80 rfl (by kernel_rfl) ?_))
              refine call_then (hN.out _) ?_; intro wn hv
              replace k0 := keeps hv k0
              replace kg := keeps hv kg
              replace kx := keeps hv kx
              replace hb := below_next hb hb.size hv
              clear hv hN
              go_wp2_with (first
                | (refine list_load_mid _ _ _ 0 _ _ rfl rfl rfl (At0.of_block kx) Tryd.underlying33 rfl (by kernel_rfl) ?_)
                | (refine list_load_mid _ _ _ 0 _ _ rfl rfl rfl (At0.of_block k0) Tryd.underlying80 rfl (by kernel_rfl) ?_))
              refine call_then (hR.out _) ?_
              intro w9 hv
              replace k0 := keeps hv k0
              replace kg := keeps hv kg
              replace hb := below_next hb hb.size hv
              clear hv hR kx
              go_wp2
              exact ⟨⟨k + 1, by omega, by go_num, hb, k0, kg⟩, left_2 hlt⟩
            | false =>
              cases b3 : decide (mn < 1) with
              | true =>
                clear hrb
                replace hR := hR
                go_upto_region 6 with (first
                  | (refine list_load_mid _ _ _ (k * 8) _ _ rfl rfl rfl hmid Tryd.underlying33 rfl (by kernel_rfl) ?_)
                  | (refine list_store_whole _ _ _ _ (tcl y q r) (tcl ⟨0, 0, 0, 0, 0, 0⟩ 0 ⟨#[]⟩) 33 rfl rfl rfl rfl (alloc_at rfl) rfl (by kernel_rfl) (one_tcl _ _ _) ?_; intro w7 hbut kx))
                have hbA := hb.alloc hb.size (.cells (tcl ⟨0, 0, 0, 0, 0, 0⟩ 0 ⟨#[]⟩).toArray 33 (0, 0))
                have hlk := lt_of_get k0
                have hlg := lt_of_get kg
                replace k0 : w7.heap[w.heap.size]? = some (.cells (rul W mn mx).toArray 80 (0, 0)) := (hbut.block _ (by simp; omega) (by omega)).trans (alloc_keeps k0)
                replace kg : w7.heap[g]? = some (.cells (tcl x p s ++ tcl x2 p2 s2).toArray 33 (0, 0)) := (hbut.block _ (by simp; omega) (by omega)).trans (alloc_keeps kg)
                replace hb := hbut.below hbA hb.size hbA.size
                clear hbut hbA hmid hlk hlg
                generalize wr.heap.size = o at *
                go_wp2_with (first
                  | (refine list_load_mid _ _ _ 0 _ _ rfl rfl rfl (At0.of_block kx) Tryd.underlying33 rfl (by kernel_rfl) ?_))
                refine call_then (hC.out _) ?_
                intro w8 hv
                replace k0 := keeps hv k0
                replace kg := keeps hv kg
                replace kx := keeps hv kx
                replace hb := below_next hb hb.size hv
                clear hv hC
                have a0 := At0.of_block k0 0 (.int .u64 W) rfl
                have a1 := At0.of_block k0 1 (.int .i64 mn) rfl
                have a2 := At0.of_block k0 2 (.int .i64 mx) rfl
                simp only [Nat.zero_add] at a0 a1 a2
                go_upto_region 9 with (fail)
                go_wp2_with (first
                  | (refine list_load_mid _ _ _ 0 _ _ rfl rfl rfl (At0.of_block kx) Tryd.underlying33 rfl (by kernel_rfl) ?_)
                  | (refine list_load_mid _ _ _ 0 _ _ rfl rfl rfl (At0.of_block k0) Tryd.underlying80 rfl (by kernel_rfl) ?_))
                refine call_then (hN.out _) ?_; intro wn hv
                replace k0 := keeps hv k0
                replace kg := keeps hv kg
                replace kx := keeps hv kx
                replace hb := below_next hb hb.size hv
                clear hv hN
                go_wp2_with (first
                  | (refine list_load_mid _ _ _ 0 _ _ rfl rfl rfl (At0.of_block kx) Tryd.underlying33 rfl (by kernel_rfl) ?_)
                  | (refine list_load_mid _ _ _ 0 _ _ rfl rfl rfl (At0.of_block k0) Tryd.underlying80 rfl (by kernel_rfl) ?_))
                refine call_then (hR.out _) ?_
                intro w9 hv
                replace k0 := keeps hv k0
                replace kg := keeps hv kg
                replace hb := below_next hb hb.size hv
                clear hv hR kx
                go_wp2
                exact ⟨⟨k + 1, by omega, by go_num, hb, k0, kg⟩, left_2 hlt⟩
              | false =>
                cases b4 : decide (mx < mn) with
                | true =>
                  clear hrb
                  replace hR := hR
                  go_upto_region 6 with (first
                    | (refine list_load_mid _ _ _ (k * 8) _ _ rfl rfl rfl hmid Tryd.underlying33 rfl (by kernel_rfl) ?_)
                    | (refine list_store_whole _ _ _ _ (tcl y q r) (tcl ⟨0, 0, 0, 0, 0, 0⟩ 0 ⟨#[]⟩) 33 rfl rfl rfl rfl (alloc_at rfl) rfl (by kernel_rfl) (one_tcl _ _ _) ?_; intro w7 hbut kx))
                  have hbA := hb.alloc hb.size (.cells (tcl ⟨0, 0, 0, 0, 0, 0⟩ 0 ⟨#[]⟩).toArray 33 (0, 0))
                  have hlk := lt_of_get k0
                  have hlg := lt_of_get kg
                  replace k0 : w7.heap[w.heap.size]? = some (.cells (rul W mn mx).toArray 80 (0, 0)) := (hbut.block _ (by simp; omega) (by omega)).trans (alloc_keeps k0)
                  replace kg : w7.heap[g]? = some (.cells (tcl x p s ++ tcl x2 p2 s2).toArray 33 (0, 0)) := (hbut.block _ (by simp; omega) (by omega)).trans (alloc_keeps kg)
                  replace hb := hbut.below hbA hb.size hbA.size
                  clear hbut hbA hmid hlk hlg
                  generalize wr.heap.size = o at *
                  go_wp2_with (first
                    | (refine list_load_mid _ _ _ 0 _ _ rfl rfl rfl (At0.of_block kx) Tryd.underlying33 rfl (by kernel_rfl) ?_))
                  refine call_then (hC.out _) ?_
                  intro w8 hv
                  replace k0 := keeps hv k0
                  replace kg := keeps hv kg
                  replace kx := keeps hv kx
                  replace hb := below_next hb hb.size hv
                  clear hv hC
                  have a0 := At0.of_block k0 0 (.int .u64 W) rfl
                  have a1 := At0.of_block k0 1 (.int .i64 mn) rfl
                  have a2 := At0.of_block k0 2 (.int .i64 mx) rfl
                  simp only [Nat.zero_add] at a0 a1 a2
                  go_upto_region 9 with (fail)
                  go_wp2_with (first
                    | (refine list_load_mid _ _ _ 0 _ _ rfl rfl rfl (At0.of_block kx) Tryd.underlying33 rfl (by kernel_rfl) ?_)
                    | (refine list_load_mid _ _ _ 0 _ _ rfl rfl rfl (At0.of_block k0) Tryd.underlying80 rfl (by kernel_rfl) ?_))
                  refine call_then (hN.out _) ?_; intro wn hv
                  replace k0 := keeps hv k0
                  replace kg := keeps hv kg
                  replace kx := keeps hv kx
                  replace hb := below_next hb hb.size hv
                  clear hv hN
                  go_wp2_with (first
                    | (refine list_load_mid _ _ _ 0 _ _ rfl rfl rfl (At0.of_block kx) Tryd.underlying33 rfl (by kernel_rfl) ?_)
                    | (refine list_load_mid _ _ _ 0 _ _ rfl rfl rfl (At0.of_block k0) Tryd.underlying80 rfl (by kernel_rfl) ?_))
                  refine call_then (hR.out _) ?_
                  intro w9 hv
                  replace k0 := keeps hv k0
                  replace kg := keeps hv kg
                  replace hb := below_next hb hb.size hv
                  clear hv hR kx
                  go_wp2
                  exact ⟨⟨k + 1, by omega, by go_num, hb, k0, kg⟩, left_2 hlt⟩
                | false =>
                  have b5 : decide (mx > 256) = true := by
                    rw [b1, b2, b3, b4] at hrb
                    simpa using hrb
                  clear hrb
                  replace hR := hR
                  go_upto_region 6 with (first
                    | (refine list_load_mid _ _ _ (k * 8) _ _ rfl rfl rfl hmid Tryd.underlying33 rfl (by kernel_rfl) ?_)
                    | (refine list_store_whole _ _ _ _ (tcl y q r) (tcl ⟨0, 0, 0, 0, 0, 0⟩ 0 ⟨#[]⟩) 33 rfl rfl rfl rfl (alloc_at rfl) rfl (by kernel_rfl) (one_tcl _ _ _) ?_; intro w7 hbut kx))
                  have hbA := hb.alloc hb.size (.cells (tcl ⟨0, 0, 0, 0, 0, 0⟩ 0 ⟨#[]⟩).toArray 33 (0, 0))
                  have hlk := lt_of_get k0
                  have hlg := lt_of_get kg
                  replace k0 : w7.heap[w.heap.size]? = some (.cells (rul W mn mx).toArray 80 (0, 0)) := (hbut.block _ (by simp; omega) (by omega)).trans (alloc_keeps k0)
                  replace kg : w7.heap[g]? = some (.cells (tcl x p s ++ tcl x2 p2 s2).toArray 33 (0, 0)) := (hbut.block _ (by simp; omega) (by omega)).trans (alloc_keeps kg)
                  replace hb := hbut.below hbA hb.size hbA.size
                  clear hbut hbA hmid hlk hlg
                  generalize wr.heap.size = o at *
                  go_wp2_with (first
                    | (refine list_load_mid _ _ _ 0 _ _ rfl rfl rfl (At0.of_block kx) Tryd.underlying33 rfl (by kernel_rfl) ?_))
                  refine call_then (hC.out _) ?_
                  intro w8 hv
                  replace k0 := keeps hv k0
                  replace kg := keeps hv kg
                  replace kx := keeps hv kx
                  replace hb := below_next hb hb.size hv
                  clear hv hC
                  have a0 := At0.of_block k0 0 (.int .u64 W) rfl
                  have a1 := At0.of_block k0 1 (.int .i64 mn) rfl
                  have a2 := At0.of_block k0 2 (.int .i64 mx) rfl
                  simp only [Nat.zero_add] at a0 a1 a2
                  go_upto_region 9 with (fail)
                  go_wp2_with (first
                    | (refine list_load_mid _ _ _ 0 _ _ rfl rfl rfl (At0.of_block kx) Tryd.underlying33 rfl (by kernel_rfl) ?_)
                    | (refine list_load_mid _ _ _ 0 _ _ rfl rfl rfl (At0.of_block k0) Tryd.underlying80 rfl (by kernel_rfl) ?_))
                  refine call_then (hN.out _) ?_; intro wn hv
                  replace k0 := keeps hv k0
                  replace kg := keeps hv kg
                  replace kx := keeps hv kx
                  replace hb := below_next hb hb.size hv
                  clear hv hN
                  go_wp2_with (first
                    | (refine list_load_mid _ _ _ 0 _ _ rfl rfl rfl (At0.of_block kx) Tryd.underlying33 rfl (by kernel_rfl) ?_)
                    | (refine list_load_mid _ _ _ 0 _ _ rfl rfl rfl (At0.of_block k0) Tryd.underlying80 rfl (by kernel_rfl) ?_))
                  refine call_then (hR.out _) ?_
                  intro w9 hv
                  replace k0 := keeps hv k0
                  replace kg := keeps hv kg
                  replace hb := below_next hb hb.size hv
                  clear hv hR kx
                  go_wp2
                  exact ⟨⟨k + 1, by omega, by go_num, hb, k0, kg⟩, left_2 hlt⟩
        | false =>
          rw [hrb, if_neg (by decide)] at hrc
          have hN := Lib.hid (hNo hrc)
          rw [hrc] at hR
          replace hR := Lib.hid hR
          clear hNb hNo ht hrc
          unfold rbad at hrb
          simp only [Bool.or_eq_false_iff] at hrb
          obtain ⟨⟨⟨⟨b1, b2⟩, b3⟩, b4⟩, b5⟩ := hrb
          go_upto_region 6 with (first
            | (refine list_load_mid _ _ _ (k * 8) _ _ rfl rfl rfl hmid Tryd.underlying33 rfl (by kernel_rfl) ?_)
            | (refine list_store_whole _ _ _ _ (tcl y q r) (tcl ⟨0, 0, 0, 0, 0, 0⟩ 0 ⟨#[]⟩) 33 rfl rfl rfl rfl (alloc_at rfl) rfl (by kernel_rfl) (one_tcl _ _ _) ?_; intro w7 hbut kx))
          have hbA := hb.alloc hb.size (.cells (tcl ⟨0, 0, 0, 0, 0, 0⟩ 0 ⟨#[]⟩).toArray 33 (0, 0))
          have hlk := lt_of_get k0
          have hlg := lt_of_get kg
          replace k0 : w7.heap[w.heap.size]? = some (.cells (rul W mn mx).toArray 80 (0, 0)) := (hbut.block _ (by simp; omega) (by omega)).trans (alloc_keeps k0)
          replace kg : w7.heap[g]? = some (.cells (tcl x p s ++ tcl x2 p2 s2).toArray 33 (0, 0)) := (hbut.block _ (by simp; omega) (by omega)).trans (alloc_keeps kg)
          replace hb := hbut.below hbA hb.size hbA.size
          clear hbut hbA hmid hlk hlg
          generalize wr.heap.size = o at *
          go_wp2_with (first
            | (refine list_load_mid _ _ _ 0 _ _ rfl rfl rfl (At0.of_block kx) Tryd.underlying33 rfl (by kernel_rfl) ?_))
          refine call_then (hC.out _) ?_
          intro w8 hv
          replace k0 := keeps hv k0
          replace kg := keeps hv kg
          replace kx := keeps hv kx
          replace hb := below_next hb hb.size hv
          clear hv hC
          have a0 := At0.of_block k0 0 (.int .u64 W) rfl
          have a1 := At0.of_block k0 1 (.int .i64 mn) rfl
          have a2 := At0.of_block k0 2 (.int .i64 mx) rfl
          simp only [Nat.zero_add] at a0 a1 a2
          go_upto_region 9 with (fail)
          go_wp2_with (first
            | (refine list_load_mid _ _ _ 0 _ _ rfl rfl rfl (At0.of_block kx) Tryd.underlying33 rfl (by kernel_rfl) ?_)
            | (refine list_load_mid _ _ _ 0 _ _ rfl rfl rfl (At0.of_block k0) Tryd.underlying80 rfl (by kernel_rfl) ?_))
          refine (hN.out _).mono ?_; rintro e wn ⟨qb, rfl, hv, -, -⟩
          replace k0 := keeps hv k0
          replace kg := keeps hv kg
          replace kx := keeps hv kx
          replace hb := below_next hb hb.size hv
          clear hv hN
          go_wp2_with (first
            | (refine list_load_mid _ _ _ 0 _ _ rfl rfl rfl (At0.of_block kx) Tryd.underlying33 rfl (by kernel_rfl) ?_)
            | (refine list_load_mid _ _ _ 0 _ _ rfl rfl rfl (At0.of_block k0) Tryd.underlying80 rfl (by kernel_rfl) ?_))
          refine call_then (hR.out _) ?_
          intro w9 hv
          replace k0 := keeps hv k0
          replace kg := keeps hv kg
          replace hb := below_next hb hb.size hv
          clear hv hR kx
          go_wp2
          exact ⟨⟨k + 1, by omega, by go_num, hb, k0, kg⟩, left_2 hlt⟩
      · have hrc : rcode y q r W mn mx = tcode y q r := by unfold rcode; rw [if_neg ht]
        have hN := hNb (by rw [hrc]; exact ht)
        rw [hrc] at hN hR
        have z1 : (tcode y q r == 0) = false := by simpa using ht
        have z2 : (tcode y q r != tcode y q r) = false := by simp
        generalize tcode y q r = z at *
        replace hC := Lib.hid hC
        replace hR := Lib.hid hR
        replace hN := Lib.hid hN
        clear hNb hNo ht hrc
        replace hR := hR
        go_upto_region 6 with (first
          | (refine list_load_mid _ _ _ (k * 8) _ _ rfl rfl rfl hmid Tryd.underlying33 rfl (by kernel_rfl) ?_)
          | (refine list_store_whole _ _ _ _ (tcl y q r) (tcl ⟨0, 0, 0, 0, 0, 0⟩ 0 ⟨#[]⟩) 33 rfl rfl rfl rfl (alloc_at rfl) rfl (by kernel_rfl) (one_tcl _ _ _) ?_; intro w7 hbut kx))
        have hbA := hb.alloc hb.size (.cells (tcl ⟨0, 0, 0, 0, 0, 0⟩ 0 ⟨#[]⟩).toArray 33 (0, 0))
        have hlk := lt_of_get k0
        have hlg := lt_of_get kg
        replace k0 : w7.heap[w.heap.size]? = some (.cells (rul W mn mx).toArray 80 (0, 0)) := (hbut.block _ (by simp; omega) (by omega)).trans (alloc_keeps k0)
        replace kg : w7.heap[g]? = some (.cells (tcl x p s ++ tcl x2 p2 s2).toArray 33 (0, 0)) := (hbut.block _ (by simp; omega) (by omega)).trans (alloc_keeps kg)
        replace hb := hbut.below hbA hb.size hbA.size
        clear hbut hbA hmid hlk hlg
        generalize wr.heap.size = o at *
        go_wp2_with (first
          | (refine list_load_mid _ _ _ 0 _ _ rfl rfl rfl (At0.of_block kx) Tryd.underlying33 rfl (by kernel_rfl) ?_))
        refine call_then (hC.out _) ?_
        intro w8 hv
        replace k0 := keeps hv k0
        replace kg := keeps hv kg
        replace kx := keeps hv kx
        replace hb := below_next hb hb.size hv
        clear hv hC
        have a0 := At0.of_block k0 0 (.int .u64 W) rfl
        have a1 := At0.of_block k0 1 (.int .i64 mn) rfl
        have a2 := At0.of_block k0 2 (.int .i64 mx) rfl
        simp only [Nat.zero_add] at a0 a1 a2
        go_upto_region 9 with (fail)
        go_wp2_with (first
          | (refine list_load_mid _ _ _ 0 _ _ rfl rfl rfl (At0.of_block kx) Tryd.underlying33 rfl (by kernel_rfl) ?_)
          | (refine list_load_mid _ _ _ 0 _ _ rfl rfl rfl (At0.of_block k0) Tryd.underlying80 rfl (by kernel_rfl) ?_))
        refine call_then (hN.out _) ?_; intro wn hv
        replace k0 := keeps hv k0
        replace kg := keeps hv kg
        replace kx := keeps hv kx
        replace hb := below_next hb hb.size hv
        clear hv hN
        go_wp2_with (first
          | (refine list_load_mid _ _ _ 0 _ _ rfl rfl rfl (At0.of_block kx) Tryd.underlying33 rfl (by kernel_rfl) ?_)
          | (refine list_load_mid _ _ _ 0 _ _ rfl rfl rfl (At0.of_block k0) Tryd.underlying80 rfl (by kernel_rfl) ?_))
        refine call_then (hR.out _) ?_
        intro w9 hv
        replace k0 := keeps hv k0
        replace kg := keeps hv kg
        replace hb := below_next hb hb.size hv
        clear hv hR kx
        go_wp2
        exact ⟨⟨k + 1, by omega, by go_num, hb, k0, kg⟩, left_2 hlt⟩
    · obtain rfl : k = 2 := by omega
      go_wp2
      go_ret
      exact ⟨rfl, hb⟩
end Go.Proofs.YtpojhomccmfffaaDoor
