/-
  Totals: a report's share more.
-/
import Derived.Test.YtpojhomccmfffaaDoorTtH
namespace Go.Proofs.YtpojhomccmfffaaDoor
open Go.RowKit Flow F
set_option linter.unusedVariables false
set_option linter.unusedSimpArgs false

set_option maxRecDepth 20000 in
set_option maxHeartbeats 4000000 in
theorem tadd_bad (x : Ci) (p : Int) (s : ByteArray) (A B : Option Addr) (n1 n2 cA cB : Nat) (m1 : Int) (c1 : Nat → Nat) (ns : List Nat) (hns : IdOK ns) (z : Int)
    (hM : ∀ w, Calls Tryd.prog 15 #[totv (.slice A n1 cA) m1 c1, tvl x p s, totv (.slice B n2 cB) 1 (chk ns)] w fun e w' => e = .returned (.tuple #[.agg noTot.toArray, .int .i64 z]) ∧ Below w.heap.size w w') (w : World) (hT : Tabs w) :
    Calls Tryd.prog 25 #[totv (.slice A n1 cA) m1 c1, tvl x p s, .agg (idc ns).toArray, .slice B n2 cB] w fun e w' => e = .returned (.tuple #[.agg noTot.toArray, .int .i64 z]) ∧ Below w.heap.size w w' := by
  unfold tvl totv at *
  have hil := Lib.hid (idc_len hns)
  have hI := Lib.hid (fun w hT => ofId_ok ns hns w hT)
  replace hM := Lib.hid hM
  replace hT := Lib.hid hT
  clear hns
  go_enter Tryd.func25, Tryd.ntmps25
  go_upto_region 1 with (fail)
  refine name_wp (fun w1 => Below w.heap.size w w1 ∧ w1.heap.size = w.heap.size + 4 ∧ w1.heap[w.heap.size]? = some (.cells (tot (.slice A n1 cA) m1 c1).toArray 39 (0, 0)) ∧ w1.heap[w.heap.size + 1]? = some (.cells (tcl x p s).toArray 33 (0, 0)) ∧ w1.heap[w.heap.size + 2]? = some (.cells (idc ns).toArray 51 (0, 0)) ∧ w1.heap[w.heap.size + 3]? = some (.cells noTot.toArray 39 (0, 0)))
    ⟨((((Below.refl _ _).alloc (Nat.le_refl _) _).alloc (by simp) _).alloc (by simp; omega) _).alloc (by simp; omega) _, by simp, alloc_keeps (alloc_keeps (alloc_keeps (alloc_at rfl))), alloc_keeps (alloc_keeps (alloc_at (by simp))), alloc_keeps (alloc_at (by simp)), alloc_at (by simp)⟩ ?_
  rintro w1 ⟨hb, hsz, k0, k1, k2, k3⟩
  have hT1 := hT.out.up hb
  refine wp_region_flow1 9 (by kernel_rfl) (by kernel_rfl) (by kernel_rfl) ?_
  apply Exists.intro
  refine ⟨fun ι _ φ hφ => ?_, fun w6 hv => ?_⟩
  · have hT2 := Lib.hid (fun i => hT1.up (hφ.old i))
    simp only [List.take_succ_cons, List.take_zero]
    iterate 5 (first
      | (refine quiet_load_mid _ _ _ 0 _ _ rfl rfl rfl (mid_family hφ (At0.of_block k0)) Tryd.underlying39 rfl (by rw [tot_len]; kernel_rfl) ?_; simp only [Act.put, List.setIfInBounds_toArray, List.set_cons_succ, List.set_cons_zero])
      | (refine quiet_load_mid _ _ _ 0 _ _ rfl rfl rfl (mid_family hφ (At0.of_block k1)) Tryd.underlying33 rfl (by kernel_rfl) ?_; simp only [Act.put, List.setIfInBounds_toArray, List.set_cons_succ, List.set_cons_zero])
      | (refine quiet_load_mid _ _ _ 0 _ _ rfl rfl rfl (mid_family hφ (At0.of_block k2)) Tryd.underlying51 rfl (by rw [hil.out]; kernel_rfl) ?_; simp only [Act.put, List.setIfInBounds_toArray, List.set_cons_succ, List.set_cons_zero])
      | go_big_quiet_step ((go_at_call 44; exact flow_call hφ (hI.out _ (hT2.out _)))))
    refine quiet_build3 _ _ _ _ _ _ _ _ _ _ _ (built_total B n2 cB 1 (chk ns)) rfl rfl rfl rfl rfl ?_
    simp only [Act.put, List.setIfInBounds_toArray, List.set_cons_succ, List.set_cons_zero]
    repeat (go_big_quiet_step ((go_at_call 15; exact flow_call hφ (hM.out _))))
    exact wpQuiet_nil rfl
  replace k3 := keeps hv k3
  replace hb := below_next hb (by omega) hv
  clear hv
  have hone := Lib.hid (one_tot (A := none) (n := 0) (cp := 0) 0 (fun _ => 0))
  simp only [List.drop_succ_cons, List.drop_zero]
  go_wp2_with (first
    | (refine list_store_whole _ _ _ _ noTot noTot 39 rfl rfl rfl rfl k3 rfl (by kernel_rfl) hone.out ?_; intro w7 hbut kr))
  have hbe := hbut.below hb (by omega) hb.size
  have hlv := loadVar_whole (P := Tryd.prog) (ty := 39) _ (At0.of_block kr) Tryd.underlying39 rfl (by kernel_rfl)
  exact bodyPost_ret (v := .tuple #[.agg noTot.toArray, .int .i64 z]) (results_cell_tmpT Tryd.results25 rfl hlv rfl) rfl ⟨rfl, hbe⟩
theorem flowS_call' {P : Program} {f : FuncId} {args : Array Value} {g : Nat → Prop} {W : World} {ι : Type} {φ : ι → World} {i : ι} {v : Value} (h : FamilyS g W ι φ)
    (hc : Calls P f args (φ i) fun e w' => e = .returned v ∧ Below (φ i).heap.size (φ i) w') : Calls P f args (φ i) fun e w' => e = .returned v ∧ ∃ j, w' = φ j := flowS_call h hc
set_option maxRecDepth 20000 in
set_option maxHeartbeats 4000000 in
theorem tadd_ok (x : Ci) (p : Int) (s : ByteArray) (h : TGood x p s) (xs ys : List Int) (A B : Option Addr) (n1 n2 cA cB : Nat) (m1 : Int) (c1 : Nat → Nat) (ns : List Nat) (hns : IdOK ns) (hm : few m1 1 = true) (h1 : n1 = x.outN) (h2 : n2 = n1) (hx : ElemsOK xs) (hy : ElemsOK ys) (hxl : xs.length = n1) (hyl : ys.length = n1)
    (l1 : Lim8 c1) (l2 : Lim8 (chk ns)) (w : World) (hT : Tabs w) (hA : ElemsAt w A xs) (hB : ElemsAt w B ys) :
    Calls Tryd.prog 25 #[totv (.slice A n1 cA) m1 c1, tvl x p s, .agg (idc ns).toArray, .slice B n2 cB] w fun e w' => ∃ g, e = .returned (.tuple #[totv (.slice (some ⟨g, 0, none⟩) n1 n1) (m1 + 1) (xorF c1 (chk ns)), .int .i64 0]) ∧ Below w.heap.size w w' ∧ w.heap.size ≤ g ∧ Row w' g (List.zipWith (add x.f) xs ys) := by
  have hM := fun (w1 : World) (a : ElemsAt w1 A xs) (b : ElemsAt w1 B ys) => merge_ok x p s h xs ys A B n1 n2 cA cB m1 1 c1 (chk ns) hm h1 h2 hx hy hxl hyl l1 l2 w1 a b
  unfold tvl at *
  unfold totv at hM ⊢
  have hil := Lib.hid (idc_len hns)
  have hI := Lib.hid (fun w hT => ofId_ok ns hns w hT)
  generalize List.zipWith (add x.f) xs ys = zs at *
  replace hM := Lib.hid hM
  replace hA := Lib.hid hA
  replace hB := Lib.hid hB
  replace hT := Lib.hid hT
  replace h1 := Lib.hid h1
  replace h2 := Lib.hid h2
  clear hns h hm hx hy hxl hyl l1 l2
  go_enter Tryd.func25, Tryd.ntmps25
  go_upto_region 1 with (fail)
  refine name_wp (fun w1 => Below w.heap.size w w1 ∧ w1.heap.size = w.heap.size + 4 ∧ w1.heap[w.heap.size]? = some (.cells (tot (.slice A n1 cA) m1 c1).toArray 39 (0, 0)) ∧ w1.heap[w.heap.size + 1]? = some (.cells (tcl x p s).toArray 33 (0, 0)) ∧ w1.heap[w.heap.size + 2]? = some (.cells (idc ns).toArray 51 (0, 0)) ∧ w1.heap[w.heap.size + 3]? = some (.cells noTot.toArray 39 (0, 0)))
    ⟨((((Below.refl _ _).alloc (Nat.le_refl _) _).alloc (by simp) _).alloc (by simp; omega) _).alloc (by simp; omega) _, by simp, alloc_keeps (alloc_keeps (alloc_keeps (alloc_at rfl))), alloc_keeps (alloc_keeps (alloc_at (by simp))), alloc_keeps (alloc_at (by simp)), alloc_at (by simp)⟩ ?_
  rintro w1 ⟨hb, hsz, k0, k1, k2, k3⟩
  have hT1 := hT.out.up hb
  refine segS_start (gb := fun _ => True) 9 (by kernel_rfl) (by decide) ?_
  intro v0 hv
  have hT2 := hT1.up hv
  replace k0 := keeps hv k0
  replace k1 := keeps hv k1
  replace k2 := keeps hv k2
  replace k3 := keeps hv k3
  replace hb := below_next hb (by omega) hv
  clear hv hT1 hT
  refine segS_batch 3 [0, 1, 2, 3, 4, 5] (by kernel_rfl) rfl (by kernel_rfl) (by kernel_rfl) (by kernel_rfl) ?_
  apply Exists.intro
  refine ⟨fun ι _ φ hφ => ?_, fun v1 hv => ?_⟩
  · have hT3 := Lib.hid (fun i => hT2.up ⟨(hφ.old i).os, (hφ.old i).tape, (hφ.old i).output, (hφ.old i).size, fun k hk => (hφ.old i).block k hk trivial⟩)
    iterate 5 (refine pick_step rfl ?_; first
      | (refine quiet_load_mid _ _ _ 0 _ _ rfl rfl rfl (mid_familyT hφ (At0.of_block k0) trivial) Tryd.underlying39 rfl (by rw [tot_len]; kernel_rfl) ?_; simp only [Act.put, List.setIfInBounds_toArray, List.set_cons_succ, List.set_cons_zero])
      | (refine quiet_load_mid _ _ _ 0 _ _ rfl rfl rfl (mid_familyT hφ (At0.of_block k1) trivial) Tryd.underlying33 rfl (by kernel_rfl) ?_; simp only [Act.put, List.setIfInBounds_toArray, List.set_cons_succ, List.set_cons_zero])
      | (refine quiet_load_mid _ _ _ 0 _ _ rfl rfl rfl (mid_familyT hφ (At0.of_block k2) trivial) Tryd.underlying51 rfl (by rw [hil.out]; kernel_rfl) ?_; simp only [Act.put, List.setIfInBounds_toArray, List.set_cons_succ, List.set_cons_zero])
      | go_big_quiet_step ((go_at_call 44; exact flowS_call hφ (hI.out _ (hT3.out _)))))
    refine pick_step rfl ?_
    refine quiet_build3 _ _ _ _ _ _ _ _ _ _ _ (built_total B n2 cB 1 (chk ns)) rfl rfl rfl rfl rfl ?_
    simp only [Act.put, List.setIfInBounds_toArray, List.set_cons_succ, List.set_cons_zero]
    exact pick_end
  replace k3 := keeps hv k3
  replace hb := below_next hb hb.size hv
  clear hv k0 k1 k2 hT2
  refine segS_one 6 _ (by decide) rfl (by kernel_rfl) ?_
  intro v2 K2 hv hK
  replace k3 := keeps hv k3
  replace hb := below_next hb hb.size hv
  clear hv
  have hM2 := Lib.hid (hM.out v2 (hA.out.up hb) (hB.out.up hb))
  replace hK := Lib.hid hK
  go_simp
  refine hM2.out.mono ?_
  rintro e v3 ⟨g, rfl, hv, hg, hr⟩
  refine hK.out _ _ (HeldS.of_below hv) ?_
  have hg3 := Nat.lt_of_lt_of_le (lt_of_get k3) hg
  have hgw : w.heap.size ≤ g := by omega
  replace k3 := keeps hv k3
  replace hb := below_next hb hb.size hv
  clear hv hK hM2 hM K2 hA hB
  refine segS_batch 0 [7, 8] (by kernel_rfl) rfl (by kernel_rfl) (by kernel_rfl) (by kernel_rfl) ?_
  apply Exists.intro
  refine ⟨fun ι _ φ hφ => ?_, fun v1 hv => ?_⟩
  · iterate 2 (refine pick_step rfl ?_; go_big_quiet_step (fail))
    exact pick_end
  replace hr := hr.up hv
  replace k3 := keeps hv k3
  replace hb := below_next hb hb.size hv
  clear hv
  refine segS_tail (by kernel_rfl) ?_
  intro v9 hv
  replace hr := hr.up hv
  replace k3 := keeps hv k3
  replace hb := below_next hb hb.size hv
  clear hv
  have hone := Lib.hid (one_tot (A := some ⟨g, 0, none⟩) (n := n1) (cp := n1) (m1 + 1) (xorF c1 (chk ns)))
  simp only [List.drop_succ_cons, List.drop_zero]
  go_wp2_with (first
    | (refine list_store_whole _ _ _ _ (tot (.slice (some ⟨g, 0, none⟩) n1 n1) (m1 + 1) (xorF c1 (chk ns))) noTot 39 rfl rfl rfl rfl k3 rfl (by kernel_rfl) hone.out ?_; intro w7 hbut kr))
  refine calm_normal ?_
  go_wp2
  have hbe := hbut.below hb (by omega) hb.size
  have hlv := loadVar_whole (P := Tryd.prog) (ty := 39) _ (At0.of_block kr) Tryd.underlying39 rfl (by kernel_rfl)
  exact bodyPost_ret (v := .tuple #[totv (.slice (some ⟨g, 0, none⟩) n1 n1) (m1 + 1) (xorF c1 (chk ns)), .int .i64 0]) (results_cell_tmpT Tryd.results25 rfl hlv rfl) rfl ⟨_, rfl, hbe, hgw, (hbut.block _ (lt_of_get hr) (by omega)).trans hr⟩
end Go.Proofs.YtpojhomccmfffaaDoor
