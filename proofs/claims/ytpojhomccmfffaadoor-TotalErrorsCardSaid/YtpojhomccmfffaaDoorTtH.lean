/-
  Totals: two as one, where they may be.
-/
import Derived.Test.YtpojhomccmfffaaDoorTtG
namespace Go.Proofs.YtpojhomccmfffaaDoor
open Go.RowKit Flow F
set_option linter.unusedVariables false
set_option linter.unusedSimpArgs false

set_option maxRecDepth 20000 in
set_option maxHeartbeats 8000000 in
theorem merge_ok (x : Ci) (p : Int) (s : ByteArray) (h : TGood x p s) (xs ys : List Int) (A B : Option Addr) (n1 n2 cA cB : Nat) (m1 m2 : Int) (c1 c2 : Nat → Nat) (hm : few m1 m2 = true) (h1 : n1 = x.outN) (h2 : n2 = n1) (hx : ElemsOK xs) (hy : ElemsOK ys) (hxl : xs.length = n1) (hyl : ys.length = n1)
    (l1 : Lim8 c1) (l2 : Lim8 c2) (w : World) (hA : ElemsAt w A xs) (hB : ElemsAt w B ys) :
    Calls Tryd.prog 15 #[totv (.slice A n1 cA) m1 c1, tvl x p s, totv (.slice B n2 cB) m2 c2] w fun e w' => ∃ g, e = .returned (.tuple #[totv (.slice (some ⟨g, 0, none⟩) n1 n1) (m1 + m2) (xorF c1 c2), .int .i64 0]) ∧ Below w.heap.size w w' ∧ w.heap.size ≤ g ∧ Row w' g (List.zipWith (add x.f) xs ys) := by
  have hC := Lib.hid (fun w => tcheck_good h w)
  have hW := Lib.hid (fun w => with_ok c1 c2 l1 l2 w)
  have hD := fun w1 (a : ElemsAt w1 A xs) (b : ElemsAt w1 B ys) => added_ok x p s h.good xs ys A B n1 n2 cA cB m1 m2 c1 c2 h1 h2 hx hy hxl hyl w1 a b
  obtain ⟨j1, j2, j3⟩ := few_of hm
  have b1 : decide (m1 < 0) = false := by simp; omega
  have b2 : decide (m2 < 0) = false := by simp; omega
  have b3 : decide (m1 > 256) = false := by simp; omega
  have b4 : decide (m2 > 256 - m1) = false := by simp; omega
  have i1 : 0 ≤ m1 := by omega
  have i2 : m1 ≤ 256 := by omega
  unfold tvl totv at *
  generalize List.zipWith (add x.f) xs ys = zs at *
  replace hA := Lib.hid hA
  replace hB := Lib.hid hB
  replace hD := Lib.hid hD
  replace h1 := Lib.hid h1
  replace h2 := Lib.hid h2
  replace hxl := Lib.hid hxl
  replace hyl := Lib.hid hyl
  clear h hm hx hy l1 l2
  go_enter Tryd.func15, Tryd.ntmps15
  go_upto_region 1 with (fail)
  refine name_wp (fun w1 => Below w.heap.size w w1 ∧ w1.heap.size = w.heap.size + 4 ∧ w1.heap[w.heap.size]? = some (.cells (tot (.slice A n1 cA) m1 c1).toArray 39 (0, 0)) ∧ w1.heap[w.heap.size + 1]? = some (.cells (tcl x p s).toArray 33 (0, 0)) ∧ w1.heap[w.heap.size + 2]? = some (.cells (tot (.slice B n2 cB) m2 c2).toArray 39 (0, 0)) ∧ w1.heap[w.heap.size + 3]? = some (.cells noTot.toArray 39 (0, 0)))
    ⟨((((Below.refl _ _).alloc (Nat.le_refl _) _).alloc (by simp) _).alloc (by simp; omega) _).alloc (by simp; omega) _, by simp, alloc_keeps (alloc_keeps (alloc_keeps (alloc_at rfl))), alloc_keeps (alloc_keeps (alloc_at (by simp))), alloc_keeps (alloc_at (by simp)), alloc_at (by simp)⟩ ?_
  rintro w1 ⟨hb, hsz, k0, k1, k2, k3⟩
  go_wp2_with (first
    | (refine list_load_mid _ _ _ 0 _ _ rfl rfl rfl (At0.of_block k1) Tryd.underlying33 rfl (by kernel_rfl) ?_))
  refine call_then (hC.out _) ?_
  intro w3 hv
  replace hb := below_next hb (by have := hb.size; omega) hv
  replace k0 := keeps hv k0
  replace k1 := keeps hv k1
  replace k2 := keeps hv k2
  replace k3 := keeps hv k3
  clear hv
  clear hC hsz
  have q1 := At0.of_block k0 1 (.int .i64 m1) rfl
  have q2 := At0.of_block k2 1 (.int .i64 m2) rfl
  simp only [Nat.zero_add] at q1 q2
  have hD2 := fun w4 (hv : Below w3.heap.size w3 w4) => hD.out w4 ((hA.out.up hb).up hv) ((hB.out.up hb).up hv)
  have hsz := hb.size
  replace hD2 := Lib.hid hD2
  clear hA hB hD
  go_wp2_with (first
    | (refine list_load_mid _ _ _ 0 _ _ rfl rfl rfl (At0.of_block k1) Tryd.underlying33 rfl (by kernel_rfl) ?_)
    | (refine list_load_mid _ _ _ 0 _ _ rfl rfl rfl (At0.of_block k0) Tryd.underlying39 rfl (by rw [tot_len]; kernel_rfl) ?_)
    | (refine list_load_mid _ _ _ 0 _ _ rfl rfl rfl (At0.of_block k2) Tryd.underlying39 rfl (by rw [tot_len]; kernel_rfl) ?_))
  refine (hD2.out _ (Below.refl _ _)).mono ?_
  rintro e w4 ⟨g, rfl, hv, hg, hr⟩
  have hg3 := Nat.lt_of_lt_of_le (lt_of_get k3) hg
  replace hb := below_next hb (by have := hb.size; omega) hv
  replace k0 := keeps hv k0
  replace k1 := keeps hv k1
  replace k2 := keeps hv k2
  replace k3 := keeps hv k3
  clear hv
  replace hr := Lib.hid hr
  have hgw : w.heap.size ≤ g := by omega
  clear hD2 q1 q2 b1 b2 b3 b4
  go_wp2
  refine wp_region_flow1 12 (by kernel_rfl) (by kernel_rfl) (by kernel_rfl) ?_
  apply Exists.intro
  refine ⟨fun ι _ φ hφ => ?_, fun w6 hv => ?_⟩
  · have a0 := At0.of_block k0
    have a2 := At0.of_block k2
    have r1 := a0 1 (.int .i64 m1) rfl
    have r2 := a2 1 (.int .i64 m2) rfl
    simp only [Nat.zero_add] at r1 r2
    have e1 := fun i => hφ.cell r1 i
    have e2 := fun i => hφ.cell r2 i
    simp only [List.take_succ_cons, List.take_zero]
    repeat (first
      | (refine quiet_load_mid _ _ _ 2 _ _ rfl rfl rfl (mid_family hφ (sub_range a0 2 _ (tot_chk _ _ _))) Tryd.underlying37 rfl (by rw [arr8_len]; kernel_rfl) ?_; simp only [Act.put, List.setIfInBounds_toArray, List.set_cons_succ, List.set_cons_zero])
      | (refine quiet_load_mid _ _ _ 2 _ _ rfl rfl rfl (mid_family hφ (sub_range a2 2 _ (tot_chk _ _ _))) Tryd.underlying37 rfl (by rw [arr8_len]; kernel_rfl) ?_; simp only [Act.put, List.setIfInBounds_toArray, List.set_cons_succ, List.set_cons_zero])
      | go_big_quiet_step ((go_at_call 17; exact flow_call hφ (hW.out _))))
    refine quiet_build3 _ _ _ _ _ _ _ _ _ _ _ (built_total (some ⟨g, 0, none⟩) n1 n1 (m1 + m2) (xorF c1 c2)) rfl rfl rfl rfl rfl ?_
    simp only [Act.put, List.setIfInBounds_toArray, List.set_cons_succ, List.set_cons_zero]
    exact wpQuiet_nil rfl
  replace hr := hr.out.up hv
  replace hb := below_next hb (by have := hb.size; omega) hv
  replace k0 := keeps hv k0
  replace k1 := keeps hv k1
  replace k2 := keeps hv k2
  replace k3 := keeps hv k3
  clear hv
  have hone := Lib.hid (one_tot (A := some ⟨g, 0, none⟩) (n := n1) (cp := n1) (m1 + m2) (xorF c1 c2))
  simp only [List.drop_succ_cons, List.drop_zero]
  go_wp2_with (first
    | (refine list_store_whole _ _ _ _ (tot (.slice (some ⟨g, 0, none⟩) n1 n1) (m1 + m2) (xorF c1 c2)) noTot 39 rfl rfl rfl rfl k3 rfl (by kernel_rfl) hone.out ?_; intro w7 hbut kr))
  have hbe := hbut.below hb (by omega) hb.size
  have hlv := loadVar_whole (P := Tryd.prog) (ty := 39) _ (At0.of_block kr) Tryd.underlying39 rfl (by kernel_rfl)
  exact bodyPost_ret (v := .tuple #[totv (.slice (some ⟨g, 0, none⟩) n1 n1) (m1 + m2) (xorF c1 c2), .int .i64 0]) (results_cell_tmpT Tryd.results15 rfl hlv rfl) rfl ⟨_, rfl, hbe, hgw, (hbut.block _ (lt_of_get hr) (by omega)).trans hr⟩
end Go.Proofs.YtpojhomccmfffaaDoor
