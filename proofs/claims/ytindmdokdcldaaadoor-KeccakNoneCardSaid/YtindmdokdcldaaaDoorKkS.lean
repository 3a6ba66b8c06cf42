/-
  KeccakNone: its walk.
-/
import Derived.Test.YtindmdokdcldaaaDoorKkQ
import Derived.BigQuiet
import Derived.Test.YtindmdokdcldaaaDoorSeg
namespace Go.Proofs.YtindmdokdcldaaaDoor
open Go.RowKit Flow
set_option linter.unusedVariables false
set_option linter.unusedSimpArgs false

theorem permute_nil (w : World) : Calls Tryd.prog 7 #[.pointer none] w fun e w' => e = .returned (.tuple #[]) ∧ w' = w := by
  go_enter Tryd.func7, Tryd.ntmps7
  go_wp2
  refine bodyPost_ret (results_none rfl _ _ _) rfl ?_
  exact ⟨rfl, rfl⟩
theorem write_nil (A : Option Addr) (n c : Nat) (w : World) : Calls Tryd.prog 11 #[.pointer none, .slice A n c] w fun e w' => e = .returned (.tuple #[]) ∧ w' = w := by
  go_enter Tryd.func11, Tryd.ntmps11
  go_wp2
  refine bodyPost_ret (results_none rfl _ _ _) rfl ?_
  exact ⟨rfl, rfl⟩
theorem read_nil (m : Int) (w : World) : Calls Tryd.prog 13 #[.pointer none, .int .i64 m] w fun e w' => e = .returned (.slice none 0 0) ∧ w' = w := by
  go_enter Tryd.func13, Tryd.ntmps13
  go_wp2
  go_ret
  exact ⟨rfl, rfl⟩
theorem read_neg (b : Nat) (m : Int) (hm : m < 0) (w : World) : Calls Tryd.prog 13 #[.pointer (some ⟨b, 0, none⟩), .int .i64 m] w fun e w' => e = .returned (.slice none 0 0) ∧ w' = w := by
  have h : decide (m < 0) = true := by rw [decide_eq_true_eq]; exact hm
  go_enter Tryd.func13, Tryd.ntmps13
  go_wp2
  go_ret
  exact ⟨rfl, rfl⟩
theorem none_many (A : Option Addr) (n c : Nat) (m : Int) (h : 300 < n) (w : World) (hT : Tabs w) : Calls Tryd.prog 5 #[.slice A n c, .int .i64 m] w fun e w' => e = .returned (.bool true) ∧ Below w.heap.size w w' := by
  have b0 : decide ((300 : Int) < (n : Int)) = true := by rw [decide_eq_true_eq]; omega
  have hA := Lib.hid (awake_ok w hT)
  go_enter Tryd.func5, Tryd.ntmps5
  go_wp2_with fail
  refine call_then hA.out ?_
  intro w1 hb1
  clear hA
  go_wp2
  go_ret
  exact ⟨rfl, hb1⟩
theorem read_nilB (m : Int) (w : World) : Calls Tryd.prog 13 #[.pointer none, .int .i64 m] w fun e w' => e = .returned (.slice none 0 0) ∧ Below w.heap.size w w' :=
  (read_nil m w).mono fun e w' ⟨h1, h2⟩ => ⟨h1, h2 ▸ Below.refl _ _⟩
attribute [local irreducible] wpQuiet in
set_option maxHeartbeats 4000000 in
theorem none_neg (A : Option Addr) (n c : Nat) (m : Int) (h : n ≤ 300) (hm : m < 0) (w : World) (hT : Tabs w) : Calls Tryd.prog 5 #[.slice A n c, .int .i64 m] w fun e w' => e = .returned (.bool true) ∧ Below w.heap.size w w' := by
  have hneg : decide (m < 0) = true := by rw [decide_eq_true_eq]; exact hm
  have b0 : decide ((300 : Int) < (n : Int)) = false := by rw [decide_eq_false_iff_not]; omega
  have hA := Lib.hid (awake_ok w hT)
  replace hT := Lib.hid hT
  have hnew : ∀ w, Calls Tryd.prog 12 #[.int .u8 5] w fun e w' => e = .returned (.pointer (some ⟨w.heap.size, 0, none⟩)) ∧ Below w.heap.size w w' ∧ Sta w' w.heap.size 41 (spt 0 5 false) (fun _ => 0) := fun w => new_ok 5 (by decide) (by decide) w
  replace hnew := Lib.hid hnew
  go_enter Tryd.func5, Tryd.ntmps5
  go_wp2_with fail
  refine call_then hA.out ?_
  intro w1 hb1
  clear hA
  go_wp2_with fail
  refine (permute_nil w1).mono ?_
  rintro e w1' ⟨rfl, rfl⟩
  go_wp2_with fail
  refine (write_nil A n c w1').mono ?_
  rintro e w1 ⟨rfl, rfl⟩
  have hT1 := hT.out.up hb1
  have h1g := hT1.two
  clear b0
  go_wp2_with fail
  refine (hnew.out w1).mono ?_
  rintro e w2 ⟨rfl, hb2, hs2⟩
  have hT2 := hT1.up hb2
  have hb12 := below_next hb1 hb1.size hb2
  have hw1 := hb1.size
  clear hnew hb1 hT1
  go_wp2_with fail
  refine (read_neg w1.heap.size m hm w2).mono ?_
  rintro e w3 ⟨rfl, rfl⟩
  have hrn := Lib.hid (fun w => read_nilB m w)
  have hbd := Lib.hid hb12
  clear hT2 hs2 hb2 hb12 h hm hT h1g hw1
  go_upto_region 14 with (fail)
  refine seg_start 29 (by kernel_rfl) (by decide) ?_
  intro v0 hv0
  refine seg_batch 0 [0, 1, 2, 3, 4, 5, 6, 7, 8, 9, 10, 11, 12, 13, 14, 15, 16, 17, 18, 19, 20, 21, 22, 23, 24, 25, 26, 27, 28] (by kernel_rfl) rfl (by kernel_rfl) (by kernel_rfl) (by kernel_rfl) ?_
  apply Exists.intro
  refine ⟨fun ι _ φ hφ => ?_, fun v1 hv1 => ?_⟩
  · have hrn2 := fun i => hrn.out (φ i)
    iterate 29 (refine pick_step rfl ?_; go_big_quiet_step ((go_at_call 13; exact flow_call hφ (hrn2 _))))
    exact pick_end
  replace hv0 := below_chain hv0 hv1
  clear hv1
  refine seg_done rfl (by kernel_rfl) ?_
  intro v5 hv5
  replace hv0 := below_chain hv0 hv5
  replace hbd := below_next hbd.out hbd.out.size hv0
  clear hv0 hv5
  go_wp2
  go_ret
  exact ⟨rfl, hbd⟩
attribute [local irreducible] wpQuiet in
set_option maxHeartbeats 4000000 in
theorem none_high (A : Option Addr) (n c : Nat) (m : Int) (h : n ≤ 300) (hm : 3000 < m) (w : World) (hT : Tabs w) : Calls Tryd.prog 5 #[.slice A n c, .int .i64 m] w fun e w' => e = .returned (.bool true) ∧ Below w.heap.size w w' := by
  obtain ⟨k, hmk⟩ : ∃ k : Nat, min m 65536 = (k : Int) := ⟨(min m 65536).toNat, by omega⟩
  have hm0 : 0 ≤ m := by omega
  have hneg : decide (m < 0) = false := by rw [decide_eq_false_iff_not]; omega
  have hbig : decide (3000 < m) = true := by rw [decide_eq_true_eq]; exact hm
  have hmin2 : (if (65536 : Int) < m then (65536 : Int) else m) = (k : Int) := by split <;> omega
  have b0 : decide ((300 : Int) < (n : Int)) = false := by rw [decide_eq_false_iff_not]; omega
  have hA := Lib.hid (awake_ok w hT)
  replace hT := Lib.hid hT
  have hnew : ∀ w, Calls Tryd.prog 12 #[.int .u8 5] w fun e w' => e = .returned (.pointer (some ⟨w.heap.size, 0, none⟩)) ∧ Below w.heap.size w w' ∧ Sta w' w.heap.size 41 (spt 0 5 false) (fun _ => 0) := fun w => new_ok 5 (by decide) (by decide) w
  replace hnew := Lib.hid hnew
  go_enter Tryd.func5, Tryd.ntmps5
  go_wp2_with fail
  refine call_then hA.out ?_
  intro w1 hb1
  clear hA
  go_wp2_with fail
  refine (permute_nil w1).mono ?_
  rintro e w1' ⟨rfl, rfl⟩
  go_wp2_with fail
  refine (write_nil A n c w1').mono ?_
  rintro e w1 ⟨rfl, rfl⟩
  have hT1 := hT.out.up hb1
  have h1g := hT1.two
  clear b0
  go_wp2_with fail
  refine (hnew.out w1).mono ?_
  rintro e w2 ⟨rfl, hb2, hs2⟩
  have hT2 := hT1.up hb2
  have hb12 := below_next hb1 hb1.size hb2
  have hw1 := hb1.size
  clear hnew hb1 hT1
  have hR := Lib.hid (read_ok w1.heap.size h1g (fun _ => 0) 0 5 (by decide) good_zero m k hm0 hmk w2 hs2 hT2)
  go_wp2_with fail
  refine hR.out.mono ?_
  rintro e w3 ⟨g, rfl, hb3, hg, ho⟩
  have hbd := hb3.below hb12 hw1 (Nat.le_trans hw1 hb2.size)
  have hT3 := hT.out.up hbd
  replace hbd := Lib.hid hbd
  have hrn := Lib.hid (fun w => read_nilB m w)
  clear hR hb3 hg ho hT2 hs2 hb2 hb12 h1g hw1 hT hmk hm0
  clear h hm hT3
  go_upto_region 14 with (fail)
  refine seg_start 29 (by kernel_rfl) (by decide) ?_
  intro v0 hv0
  refine seg_batch 0 [0, 1, 2, 3, 4, 5, 6, 7, 8, 9, 10, 11, 12, 13, 14, 15, 16, 17, 18, 19, 20, 21, 22, 23, 24, 25, 26, 27, 28] (by kernel_rfl) rfl (by kernel_rfl) (by kernel_rfl) (by kernel_rfl) ?_
  apply Exists.intro
  refine ⟨fun ι _ φ hφ => ?_, fun v1 hv1 => ?_⟩
  · have hrn2 := fun i => hrn.out (φ i)
    iterate 29 (refine pick_step rfl ?_; go_big_quiet_step ((go_at_call 13; exact flow_call hφ (hrn2 _))))
    exact pick_end
  replace hv0 := below_chain hv0 hv1
  clear hv1
  refine seg_done rfl (by kernel_rfl) ?_
  intro v5 hv5
  replace hv0 := below_chain hv0 hv5
  replace hbd := below_next hbd.out hbd.out.size hv0
  clear hv0 hv5
  go_wp2
  go_ret
  exact ⟨rfl, hbd⟩
attribute [local irreducible] wpQuiet in
set_option maxHeartbeats 4000000 in
theorem none_mid (A : Option Addr) (n c : Nat) (k : Nat) (h : n ≤ 300) (hk : k ≤ 3000) (w : World) (hT : Tabs w) : Calls Tryd.prog 5 #[.slice A n c, .int .i64 (k : Int)] w fun e w' => e = .returned (.bool true) ∧ Below w.heap.size w w' := by
  obtain ⟨m, em⟩ : ∃ m : Int, (k : Int) = m := ⟨_, rfl⟩
  have hmk : min m 65536 = (k : Int) := by omega
  have hm0 : 0 ≤ m := by omega
  have hm2 : m ≤ 3000 := by omega
  have hneg : decide (m < 0) = false := by rw [decide_eq_false_iff_not]; omega
  have hbig : decide (3000 < m) = false := by rw [decide_eq_false_iff_not]; omega
  have hmin2 : (if (65536 : Int) < m then (65536 : Int) else m) = (k : Int) := by split <;> omega
  have hmk2 := hmk
  have hm02 := hm0
  have hH := fun (w : World) (hT : Tabs w) => hash_ok 5 (by decide) (by decide) none 0 [] (fun x hx => by cases hx) (by decide) m k hm02 hmk2 w hT (fun i hi => absurd hi (Nat.not_lt_zero i))
  have hR2 := fun (w : World) => refHash_ok 5 (by decide) none 0 [] (fun x hx => by cases hx) (by decide) (by decide) k (by omega) w (fun i hi => absurd hi (Nat.not_lt_zero i))
  rw [em] at hR2
  rw [em]
  generalize hashP 5 [] = HH at *
  replace hH := Lib.hid hH
  replace hR2 := Lib.hid hR2
  replace em := Lib.hid em
  replace hm2 := Lib.hid hm2
  replace hk := Lib.hid hk
  clear hmk2 hm02
  have b0 : decide ((300 : Int) < (n : Int)) = false := by rw [decide_eq_false_iff_not]; omega
  have hA := Lib.hid (awake_ok w hT)
  replace hT := Lib.hid hT
  have hnew : ∀ w, Calls Tryd.prog 12 #[.int .u8 5] w fun e w' => e = .returned (.pointer (some ⟨w.heap.size, 0, none⟩)) ∧ Below w.heap.size w w' ∧ Sta w' w.heap.size 41 (spt 0 5 false) (fun _ => 0) := fun w => new_ok 5 (by decide) (by decide) w
  replace hnew := Lib.hid hnew
  go_enter Tryd.func5, Tryd.ntmps5
  go_wp2_with fail
  refine call_then hA.out ?_
  intro w1 hb1
  clear hA
  go_wp2_with fail
  refine (permute_nil w1).mono ?_
  rintro e w1' ⟨rfl, rfl⟩
  go_wp2_with fail
  refine (write_nil A n c w1').mono ?_
  rintro e w1 ⟨rfl, rfl⟩
  have hT1 := hT.out.up hb1
  have h1g := hT1.two
  clear b0
  go_wp2_with fail
  refine (hnew.out w1).mono ?_
  rintro e w2 ⟨rfl, hb2, hs2⟩
  have hT2 := hT1.up hb2
  have hb12 := below_next hb1 hb1.size hb2
  have hw1 := hb1.size
  clear hnew hb1 hT1
  have hR := Lib.hid (read_ok w1.heap.size h1g (fun _ => 0) 0 5 (by decide) good_zero m k hm0 hmk w2 hs2 hT2)
  go_wp2_with fail
  refine hR.out.mono ?_
  rintro e w3 ⟨g, rfl, hb3, hg, ho⟩
  have hbd := hb3.below hb12 hw1 (Nat.le_trans hw1 hb2.size)
  have hT3 := hT.out.up hbd
  replace hbd := Lib.hid hbd
  have hrn := Lib.hid (fun w => read_nilB m w)
  clear hR hb3 hg ho hT2 hs2 hb2 hb12 h1g hw1 hT hmk hm0
  clear h
  go_upto_region 14 with (fail)
  refine seg_start 29 (by kernel_rfl) (by decide) ?_
  intro v0 hv0
  refine seg_batch 8 [0, 1, 2, 3, 4, 5, 6, 7, 8, 9, 10, 11, 12, 13, 14, 15, 16, 17, 18, 19, 22] (by kernel_rfl) rfl (by kernel_rfl) (by kernel_rfl) (by kernel_rfl) ?_
  apply Exists.intro
  refine ⟨fun ι _ φ hφ => ?_, fun v1 hv1 => ?_⟩
  · have hrn2 := fun i => hrn.out (φ i)
    iterate 21 (refine pick_step rfl ?_; go_big_quiet_step ((go_at_call 13; exact flow_call hφ (hrn2 _))))
    exact pick_end
  replace hv0 := below_chain hv0 hv1
  clear hv1
  refine seg_one 20 _ (by decide) rfl (by kernel_rfl) ?_
  intro v2 K hv2 hK
  replace hv0 := below_chain hv0 hv2
  clear hv2
  replace hK := Lib.hid hK
  go_simp
  refine (hH.out _ (hT3.up hv0)).mono ?_
  rintro e v3 ⟨g2, rfl, hv3, hg2, ho2⟩
  refine hK.out _ _ hv3 ?_
  clear hK K
  replace hv0 := below_chain hv0 hv3
  clear hv3 hg2
  refine seg_batch 6 [21] (by kernel_rfl) rfl (by kernel_rfl) (by kernel_rfl) (by kernel_rfl) ?_
  apply Exists.intro
  refine ⟨fun ι _ φ hφ => ?_, fun v4 hv4 => ?_⟩
  · have hcv := fun i => conv_oct (ho2.up (hφ.old i))
    iterate 1 (refine pick_step rfl ?_; go_big_quiet_step (fail))
    exact pick_end
  replace hv0 := below_chain hv0 hv4
  clear hv4 ho2
  refine seg_one 23 _ (by decide) rfl (by kernel_rfl) ?_
  intro v5 K hv5 hK
  replace hv0 := below_chain hv0 hv5
  clear hv5
  replace hK := Lib.hid hK
  go_simp
  refine (hR2.out _).mono ?_
  rintro e v6 ⟨a6, c6, rfl, hown, hv6⟩
  refine hK.out _ _ hv6 ?_
  clear hK K
  replace hv0 := below_chain hv0 hv6
  clear hv6
  rw [arr8_ints] at hown
  have hcu : StrAt v6 (.slice a6 k c6) (txt HH k) := ownsRow_strAt hown
  clear hown
  refine seg_batch 0 [24, 25, 26, 27, 28] (by kernel_rfl) rfl (by kernel_rfl) (by kernel_rfl) (by kernel_rfl) ?_
  apply Exists.intro
  refine ⟨fun ι _ φ hφ => ?_, fun v7 hv7 => ?_⟩
  · have hcv := fun i => (hcu.up (hφ.old i)).conv Tryd.underlying28 Tryd.underlying5 Tryd.underlying9
    iterate 5 (refine pick_step rfl ?_; go_big_quiet_step (fail))
    exact pick_end
  replace hv0 := below_chain hv0 hv7
  clear hv7 hcu
  refine seg_done rfl (by kernel_rfl) ?_
  intro v8 hv8
  replace hv0 := below_chain hv0 hv8
  replace hbd := below_next hbd.out hbd.out.size hv0
  clear hv0 hv8
  go_wp2
  go_ret
  exact ⟨rfl, hbd⟩
end Go.Proofs.YtindmdokdcldaaaDoor
