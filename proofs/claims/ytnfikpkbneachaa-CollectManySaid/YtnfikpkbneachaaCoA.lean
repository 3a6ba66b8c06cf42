/-
  Windows that are wanted: the task of noughts, its check, a new collector.
-/
import Derived.Test.YtnfikpkbneachaaChecked
import Derived.WalkKit
import Derived.ProofKit
import Derived.Outline
import Derived.Lib.Hide
import Derived.Deep.QuietTactic
import Derived.OwnWalk
import Derived.Laws.MakeOwn
import Derived.Test.YtnfikpkbneachaaSegS
import Derived.Test.YtnfikpkbneachaaSegR
import Derived.Test.YtnfikpkbneachaaAppend
import Derived.Test.YtnfikpkbneachaaMid
import Derived.Test.YtnfikpkbneachaaFlow
import Derived.Test.YtnfikpkbneachaaIns
import Derived.Deep.Cut
import Derived.Deep.DeepCutAuto
import Derived.Deep.CutBlock
import Derived.BigQuiet
namespace Go.Proofs.Ytnfikpkbneachaa
open Go.RowKit Flow
set_option linter.unusedVariables false
set_option linter.unusedSimpArgs false

def circ1 : List Value := [.int .u8 1, .int .u8 1, .int .i64 0, .int .i64 0, .int .i64 0, .int .i64 0]
def circ0 : List Value := [.int .u8 0, .int .u8 0, .int .i64 0, .int .i64 0, .int .i64 0, .int .i64 0]
def small0 : List Value := [.int .u8 0, .int .u8 0, .int .u8 0, .int .u8 0, .int .u8 0, .int .u8 0]
def noStr : Value := .string { data := #[] }
def task1 : List Value := [.int .u8 1, .int .u8 1, .int .i64 0, .int .i64 0, .int .i64 0, .int .i64 0, .int .i64 1, noStr]
def task0 : List Value := [.int .u8 0, .int .u8 0, .int .i64 0, .int .i64 0, .int .i64 0, .int .i64 0, .int .i64 0, noStr]
def small8 : List Value := [.int .u8 0, .int .u8 0, .int .u8 0, .int .u8 0, .int .u8 0, .int .u8 0, .int .u8 0, .int .u8 0]
theorem one_list {l : List Value} (h : l.all Value.oneCell' = true) : ∀ u ∈ l, u.oneCell' = true := fun u hu => List.all_eq_true.1 h u hu
theorem results_cell1 {P : Program} {fn : Func} {tmps : Array Value} {w : World} {a : Nat} {t : TypeId} {b : Nat} {v : Value} (hr : fn.results = #[.cell a t]) (ha : tmps.getD a undef = .pointer (some ⟨b, 0, none⟩))
    (h : (loadVar t ⟨b, 0, none⟩).run P w = .ok v w) : (results fn tmps).run P w = .ok v w := by
  rw [Array.getD_eq_getD_getElem?] at ha
  simp [results, hr, asAddr, ha, h]
theorem put_noneC (a : Act) (v : Value) : a.put none v = a := rfl
set_option maxRecDepth 20000 in
set_option maxHeartbeats 4000000 in
theorem circ_zero (w : World) : Calls Try.prog 11 #[.agg small0.toArray] w fun e w' => e = .returned (.agg circ1.toArray) ∧ Below w.heap.size w w' := by
  go_enter Try.func11, Try.ntmps11
  go_upto_region 1 with (fail)
  refine name_wp (fun w1 => Below w.heap.size w w1 ∧ w1.heap.size = w.heap.size + 2 ∧ w1.heap[w.heap.size]? = some (.cells small0.toArray 35 (0, 0)) ∧ w1.heap[w.heap.size + 1]? = some (.cells circ0.toArray 31 (0, 0)))
    ⟨((Below.refl _ _).alloc (Nat.le_refl _) _).alloc (by simp) _, by simp, alloc_keeps (alloc_at rfl), alloc_at (by simp)⟩ ?_
  rintro w1 ⟨hb, hs, k0, k1⟩
  obtain ⟨q, hq⟩ : ∃ q, w.heap.size = q := ⟨_, rfl⟩
  rw [hq] at hs k0 k1 ⊢
  replace hs := Lib.hid hs
  have g0 := At0.of_block k0
  have c0 := g0 0 _ rfl
  have c1 := g0 1 _ rfl
  simp only [Nat.add_zero, Nat.zero_add] at c0 c1
  have hone := Lib.hid (one_list (l := circ1) (by decide))
  go_upto_region 2 with (first
    | (refine list_store_whole _ _ _ _ circ1 circ0 31 rfl rfl rfl rfl (alloc_at rfl) rfl (by kernel_rfl) hone.out ?_; intro w5 hbut ks; have hv := hbut.below ((Below.refl w1.heap.size w1).alloc (Nat.le_refl _) _) (Nat.le_refl _) (by simp)))
  rw [hs.out] at ks ⊢
  replace k0 := keeps hv k0
  replace k1 := keeps hv k1
  rw [hq] at hb
  replace hb := below_next hb (by have := hs.out; omega) hv
  clear hbut c0 c1 g0 hv hs
  rw [put_noneC]
  refine wp_region_flow0 (by kernel_rfl) (by kernel_rfl) ?_
  intro ι _ φ hφ
  have d2 := fun i => At0.of_block (keeps (hφ.old i) k0) 2 _ rfl
  have d3 := fun i => At0.of_block (keeps (hφ.old i) k0) 3 _ rfl
  repeat (go_big_quiet_step (fail))
  refine wpQuiet_nil ?_
  intro w6 hv
  clear d2 d3
  replace k0 := keeps hv k0
  replace k1 := keeps hv k1
  replace ks := keeps hv ks
  replace hb := below_next hb (by have := hb.size; omega) hv
  clear hv
  have e0 := At0.of_block ks 0 _ rfl
  simp only [Nat.add_zero, Nat.zero_add] at e0
  go_upto_region 13 with (fail)
  have hld := At0.of_block ks
  have hl1 := lt_of_get k1
  go_wp2_with (first
    | (refine list_load_mid _ _ _ 0 _ _ rfl rfl rfl hld Try.underlying31 rfl (by kernel_rfl) ?_)
    | (refine list_store_whole _ _ _ _ circ1 circ0 31 rfl rfl rfl rfl k1 rfl (by kernel_rfl) hone.out ?_; intro w7 hbut kr))
  have hbe := hbut.below hb (by omega) (by omega)
  rw [← hq] at hbe
  have hld := loadVar_whole (ty := 31) (cs := circ1) _ (At0.of_block kr) Try.underlying31 rfl (by kernel_rfl)
  refine bodyPost_ret (v := .agg circ1.toArray) (results_cell1 Try.results11 rfl hld) rfl ⟨rfl, hbe⟩
set_option maxRecDepth 20000 in
set_option maxHeartbeats 4000000 in
theorem valid_one (w : World) : Calls Try.prog 19 #[.int .u8 1] w fun e w' => e = .returned (.bool true) ∧ Below w.heap.size w w' := by
  go_enter Try.func19, Try.ntmps19
  go_wp2
  go_ret
  exact ⟨rfl, Below.refl _ _⟩
theorem within_none (k : Int) (w : World) : Calls Try.prog 20 #[.int .i64 0, .bool false, .int .i64 k] w fun e w' => e = .returned (.bool true) ∧ Below w.heap.size w w' := by
  go_enter Try.func20, Try.ntmps20
  go_wp2
  go_ret
  exact ⟨rfl, Below.refl _ _⟩
theorem calls_one (w : World) : Calls Try.prog 21 #[.agg circ1.toArray] w fun e w' => e = .returned (.int .i64 1) ∧ Below w.heap.size w w' := by
  go_enter Try.func21, Try.ntmps21
  go_upto_region 1 with (fail)
  refine name_wp (fun w1 => Below w.heap.size w w1 ∧ w1.heap[w.heap.size]? = some (.cells circ1.toArray 31 (0, 0))) ⟨(Below.refl _ _).alloc (Nat.le_refl _) _, alloc_at rfl⟩ ?_
  rintro w1 ⟨hb, k0⟩
  have c0 := At0.of_block k0 0 _ rfl
  simp only [Nat.add_zero, Nat.zero_add] at c0
  go_wp2
  go_ret
  exact ⟨rfl, hb⟩
set_option maxRecDepth 20000 in
set_option maxHeartbeats 4000000 in
theorem check_one (w : World) : Calls Try.prog 17 #[.agg circ1.toArray] w fun e w' => e = .returned (.int .i64 0) ∧ Below w.heap.size w w' := by
  go_enter Try.func17, Try.ntmps17
  go_upto_region 1 with (fail)
  refine name_wp (fun w1 => Below w.heap.size w w1 ∧ w1.heap[w.heap.size]? = some (.cells circ1.toArray 31 (0, 0))) ⟨(Below.refl _ _).alloc (Nat.le_refl _) _, alloc_at rfl⟩ ?_
  rintro w1 ⟨hb, k0⟩
  have c0 := At0.of_block k0 0 _ rfl
  have c1 := At0.of_block k0 1 _ rfl
  have c2 := At0.of_block k0 2 _ rfl
  have c3 := At0.of_block k0 3 _ rfl
  have c4 := At0.of_block k0 4 _ rfl
  have c5 := At0.of_block k0 5 _ rfl
  simp only [Nat.add_zero, Nat.zero_add] at c0 c1 c2 c3 c4 c5
  go_wp2_with fail
  refine call_then (valid_one _) ?_
  intro w2 hv
  replace hb := below_next hb hb.size hv
  replace k0 := keeps hv k0
  clear hv c0 c1 c2 c3 c4 c5
  have c0 := At0.of_block k0 0 _ rfl
  have c1 := At0.of_block k0 1 _ rfl
  have c2 := At0.of_block k0 2 _ rfl
  have c3 := At0.of_block k0 3 _ rfl
  have c4 := At0.of_block k0 4 _ rfl
  have c5 := At0.of_block k0 5 _ rfl
  simp only [Nat.add_zero, Nat.zero_add] at c0 c1 c2 c3 c4 c5
  go_wp2_with (first | (refine list_load_mid _ _ _ 0 _ _ rfl rfl rfl (At0.of_block k0) Try.underlying31 rfl (by kernel_rfl) ?_))
  refine call_then (within_none _ _) ?_
  intro w2 hv
  replace hb := below_next hb hb.size hv
  replace k0 := keeps hv k0
  clear hv c0 c1 c2 c3 c4 c5
  have c0 := At0.of_block k0 0 _ rfl
  have c1 := At0.of_block k0 1 _ rfl
  have c2 := At0.of_block k0 2 _ rfl
  have c3 := At0.of_block k0 3 _ rfl
  have c4 := At0.of_block k0 4 _ rfl
  have c5 := At0.of_block k0 5 _ rfl
  simp only [Nat.add_zero, Nat.zero_add] at c0 c1 c2 c3 c4 c5
  go_wp2_with (first | (refine list_load_mid _ _ _ 0 _ _ rfl rfl rfl (At0.of_block k0) Try.underlying31 rfl (by kernel_rfl) ?_))
  refine call_then (within_none _ _) ?_
  intro w2 hv
  replace hb := below_next hb hb.size hv
  replace k0 := keeps hv k0
  clear hv c0 c1 c2 c3 c4 c5
  have c0 := At0.of_block k0 0 _ rfl
  have c1 := At0.of_block k0 1 _ rfl
  have c2 := At0.of_block k0 2 _ rfl
  have c3 := At0.of_block k0 3 _ rfl
  have c4 := At0.of_block k0 4 _ rfl
  have c5 := At0.of_block k0 5 _ rfl
  simp only [Nat.add_zero, Nat.zero_add] at c0 c1 c2 c3 c4 c5
  go_wp2_with (first | (refine list_load_mid _ _ _ 0 _ _ rfl rfl rfl (At0.of_block k0) Try.underlying31 rfl (by kernel_rfl) ?_))
  refine call_then (within_none _ _) ?_
  intro w2 hv
  replace hb := below_next hb hb.size hv
  replace k0 := keeps hv k0
  clear hv c0 c1 c2 c3 c4 c5
  have c0 := At0.of_block k0 0 _ rfl
  have c1 := At0.of_block k0 1 _ rfl
  have c2 := At0.of_block k0 2 _ rfl
  have c3 := At0.of_block k0 3 _ rfl
  have c4 := At0.of_block k0 4 _ rfl
  have c5 := At0.of_block k0 5 _ rfl
  simp only [Nat.add_zero, Nat.zero_add] at c0 c1 c2 c3 c4 c5
  go_wp2_with (first | (refine list_load_mid _ _ _ 0 _ _ rfl rfl rfl (At0.of_block k0) Try.underlying31 rfl (by kernel_rfl) ?_))
  refine call_then (within_none _ _) ?_
  intro w2 hv
  replace hb := below_next hb hb.size hv
  replace k0 := keeps hv k0
  clear hv c0 c1 c2 c3 c4 c5
  have c0 := At0.of_block k0 0 _ rfl
  have c1 := At0.of_block k0 1 _ rfl
  have c2 := At0.of_block k0 2 _ rfl
  have c3 := At0.of_block k0 3 _ rfl
  have c4 := At0.of_block k0 4 _ rfl
  have c5 := At0.of_block k0 5 _ rfl
  simp only [Nat.add_zero, Nat.zero_add] at c0 c1 c2 c3 c4 c5
  go_wp2_with (first | (refine list_load_mid _ _ _ 0 _ _ rfl rfl rfl (At0.of_block k0) Try.underlying31 rfl (by kernel_rfl) ?_))
  refine call_then (calls_one _) ?_
  intro w2 hv
  replace hb := below_next hb hb.size hv
  clear hv c0 c1 c2 c3 c4 c5 k0
  go_wp2
  go_ret
  exact ⟨rfl, hb⟩
set_option maxRecDepth 20000 in
set_option maxHeartbeats 4000000 in
theorem task_check (w : World) : Calls Try.prog 10 #[.agg task1.toArray] w fun e w' => e = .returned (.int .i64 0) ∧ Below w.heap.size w w' := by
  go_enter Try.func10, Try.ntmps10
  go_upto_region 1 with (fail)
  refine name_wp (fun w1 => Below w.heap.size w w1 ∧ w1.heap[w.heap.size]? = some (.cells task1.toArray 33 (0, 0))) ⟨(Below.refl _ _).alloc (Nat.le_refl _) _, alloc_at rfl⟩ ?_
  rintro w1 ⟨hb, k0⟩
  have hcm : w1.rangeAt w.heap.size 0 circ1 := fun j u hj => At0.of_block k0 j u (by
    have : j < 6 := (List.getElem?_eq_some_iff.1 hj).1
    match j, hj with
    | 0, hj => exact hj
    | 1, hj => exact hj
    | 2, hj => exact hj
    | 3, hj => exact hj
    | 4, hj => exact hj
    | 5, hj => exact hj)
  go_wp2_with (first | (refine list_load_mid _ _ _ 0 _ _ rfl rfl rfl hcm Try.underlying31 rfl (by kernel_rfl) ?_))
  refine call_then (check_one _) ?_
  intro w2 hv
  replace hb := below_next hb hb.size hv
  replace k0 := keeps hv k0
  clear hv hcm
  have c6 := At0.of_block k0 6 _ rfl
  have c7 := At0.of_block k0 7 _ rfl
  simp only [Nat.zero_add] at c6 c7
  unfold noStr at c7
  go_wp2
  go_ret
  exact ⟨rfl, hb⟩
theorem circ_zero_lit (w : World) : Calls Try.prog 11 #[.agg small0.toArray] w fun e w' => e = .returned (.agg #[.int .u8 1, .int .u8 1, .int .i64 0, .int .i64 0, .int .i64 0, .int .i64 0]) ∧ Below w.heap.size w w' := circ_zero w
theorem mid_familyC {gb : Nat → Prop} {W : World} {ι : Type} {φ : ι → World} (hφ : FamilyS gb W ι φ) {b o : Nat} {cs : List Value} (h : W.rangeAt b o cs) (hg : gb b) : ∀ w, (∃ i, w = φ i) → w.rangeAt b o cs := fun w ⟨i, e⟩ j v hj => by
  subst e
  rw [World.cell?_of_block ((hφ.old i).block _ (World.block_lt_of_cell? _ _ (h j v hj)) hg)]
  exact h j v hj
set_option maxRecDepth 20000 in
set_option maxHeartbeats 8000000 in
theorem task_zero (w : World) : Calls Try.prog 6 #[.agg small8.toArray] w fun e w' => e = .returned (.agg task1.toArray) ∧ Below w.heap.size w w' := by
  go_enter Try.func6, Try.ntmps6
  go_upto_region 1 with (fail)
  refine name_wp (fun w1 => Below w.heap.size w w1 ∧ w1.heap[w.heap.size]? = some (.cells small8.toArray 37 (0, 0)) ∧ w1.heap[w.heap.size + 1]? = some (.cells task0.toArray 33 (0, 0)))
    ⟨((Below.refl _ _).alloc (Nat.le_refl _) _).alloc (by simp) _, alloc_keeps (alloc_at rfl), alloc_at (by simp)⟩ ?_
  rintro w1 ⟨hb, k0, k1⟩
  obtain ⟨q, hq⟩ : ∃ q, w.heap.size = q := ⟨_, rfl⟩
  rw [hq] at k0 k1 hb ⊢
  replace hq := Lib.hid hq
  have hqw := hq.out
  refine segS_start (gb := fun _ => True) 15 (by kernel_rfl) (by decide) ?_
  intro v0 hv
  replace hb := below_next hb (by have := hb.size; omega) hv
  replace k0 := keeps hv k0
  replace k1 := keeps hv k1
  refine segS_batch 5 [0, 1, 3, 4, 5, 6, 7, 9, 10, 11] (by kernel_rfl) rfl (by kernel_rfl) (by kernel_rfl) (by kernel_rfl) ?_
  have k3 : v0.rangeAt q 0 small0 := fun j u hj => At0.of_block k0 j u (by
    have : j < 6 := (List.getElem?_eq_some_iff.1 hj).1
    match j, hj with
    | 0, hj => exact hj
    | 1, hj => exact hj
    | 2, hj => exact hj
    | 3, hj => exact hj
    | 4, hj => exact hj
    | 5, hj => exact hj)
  apply Exists.intro
  refine ⟨fun ι _ φ hφ => ?_, fun v4 hv => ?_⟩
  · have d6 := fun i => mid_familyC hφ (At0.of_block k0) trivial _ ⟨i, rfl⟩ 6 _ rfl; have d7 := fun i => mid_familyC hφ (At0.of_block k0) trivial _ ⟨i, rfl⟩ 7 _ rfl; simp only [Nat.zero_add] at d6 d7
    repeat (refine pick_step rfl ?_; first
      | (refine quiet_load_mid _ _ _ 0 _ _ rfl rfl rfl (mid_familyC hφ k3 trivial) Try.underlying35 rfl (by kernel_rfl) ?_; simp only [Act.put, List.setIfInBounds_toArray, List.set_cons_succ, List.set_cons_zero])
      | go_big_quiet_step (fail))
    exact pick_end
  replace hb := below_next hb (by have := hb.size; omega) hv
  replace k0 := keeps hv k0
  replace k1 := keeps hv k1
  refine segS_more [2, 8] (by kernel_rfl) (by decide) ?_
  intro j hj
  simp only [List.mem_cons, List.not_mem_nil, or_false] at hj
  rcases hj with rfl | rfl
  · refine ⟨by decide, _, rfl, ?_⟩
    intro v2 K hv hK
    replace hb := below_next hb (by have := hb.size; omega) hv
    replace k0 := keeps hv k0
    replace k1 := keeps hv k1
    skip
    replace hK := Lib.hid hK
    go_simp
    refine (circ_zero_lit _).mono ?_
    rintro e v3 ⟨rfl, hv⟩
    refine hK.out _ _ (HeldS.of_below hv) ?_
    clear hK K
    replace hb := below_next hb (by have := hb.size; omega) hv
    replace k0 := keeps hv k0
    replace k1 := keeps hv k1
    skip
    refine segS_one 8 _ (by decide) rfl (by kernel_rfl) ?_
    intro v5 K hv hK
    replace hb := below_next hb (by have := hb.size; omega) hv
    replace k0 := keeps hv k0
    replace k1 := keeps hv k1
    replace hK := Lib.hid hK
    go_simp
    have hv := (Below.refl v5.heap.size v5).alloc (Nat.le_refl _) (.cells #[.string { data := #[] }, .string { data := #[116] }, .string { data := #[116, 97, 108, 108, 121] }] 9 (0, 0))
    refine hK.out _ _ (HeldS.of_below hv) ?_
    clear hK K
    have kt := alloc_at (w := v5) (k := v5.heap.size) (o := .cells #[.string { data := #[] }, .string { data := #[116] }, .string { data := #[116, 97, 108, 108, 121] }] 9 (0, 0)) rfl
    replace hb := below_next hb (by have := hb.size; omega) hv
    replace k0 := keeps hv k0
    replace k1 := keeps hv k1
    clear hv
    generalize v5.alloc (.cells #[.string { data := #[] }, .string { data := #[116] }, .string { data := #[116, 97, 108, 108, 121] }] 9 (0, 0)) = v6 at *
    generalize v5.heap.size = qt at *
    refine segS_batch 0 [12, 13, 14] (by kernel_rfl) rfl (by kernel_rfl) (by kernel_rfl) (by kernel_rfl) ?_
    have k3 := trivial
    apply Exists.intro
    refine ⟨fun ι _ φ hφ => ?_, fun v4 hv => ?_⟩
    · have d0 := fun i => mid_familyC hφ (At0.of_block (cs := [.string { data := #[] }, .string { data := #[116] }, .string { data := #[116, 97, 108, 108, 121] }]) kt) trivial _ ⟨i, rfl⟩ 0 _ rfl; simp only [Nat.zero_add] at d0
      repeat (refine pick_step rfl ?_; first
        | (refine quiet_load_mid _ _ _ 0 _ _ rfl rfl rfl (mid_familyC hφ k3 trivial) Try.underlying35 rfl (by kernel_rfl) ?_; simp only [Act.put, List.setIfInBounds_toArray, List.set_cons_succ, List.set_cons_zero])
        | go_big_quiet_step (fail))
      exact pick_end
    replace hb := below_next hb (by have := hb.size; omega) hv
    replace k0 := keeps hv k0
    replace k1 := keeps hv k1
    refine segS_tail (by kernel_rfl) ?_
    intro v9 hv
    replace hb := below_next hb (by have := hb.size; omega) hv
    replace k0 := keeps hv k0
    replace k1 := keeps hv k1
    clear hv
    simp only [List.drop_succ_cons, List.drop_zero]
    have hl1 := lt_of_get k1
    have hone := Lib.hid (one_list (l := task1) (by decide))
    go_wp2_with (first | (refine list_store_whole _ _ _ _ task1 task0 33 rfl rfl rfl rfl k1 rfl (by kernel_rfl) hone.out ?_; intro w7 hbut kr))
    refine calm_normal ?_
    go_wp2
    have hbe := hbut.below hb (by omega) (by omega)
    rw [← hq] at hbe
    have hld := loadVar_whole (ty := 33) (cs := task1) _ (At0.of_block kr) Try.underlying33 rfl (by kernel_rfl)
    refine bodyPost_ret (v := .agg task1.toArray) (results_cell1 Try.results6 rfl hld) rfl ⟨rfl, hbe⟩
  · refine ⟨by decide, _, rfl, ?_⟩
    intro v5 K hv hK
    replace hb := below_next hb (by have := hb.size; omega) hv
    replace k0 := keeps hv k0
    replace k1 := keeps hv k1
    replace hK := Lib.hid hK
    go_simp
    have hv := (Below.refl v5.heap.size v5).alloc (Nat.le_refl _) (.cells #[.string { data := #[] }, .string { data := #[116] }, .string { data := #[116, 97, 108, 108, 121] }] 9 (0, 0))
    refine hK.out _ _ (HeldS.of_below hv) ?_
    clear hK K
    have kt := alloc_at (w := v5) (k := v5.heap.size) (o := .cells #[.string { data := #[] }, .string { data := #[116] }, .string { data := #[116, 97, 108, 108, 121] }] 9 (0, 0)) rfl
    replace hb := below_next hb (by have := hb.size; omega) hv
    replace k0 := keeps hv k0
    replace k1 := keeps hv k1
    clear hv
    generalize v5.alloc (.cells #[.string { data := #[] }, .string { data := #[116] }, .string { data := #[116, 97, 108, 108, 121] }] 9 (0, 0)) = v6 at *
    generalize v5.heap.size = qt at *
    refine segS_batch 2 [12, 13] (by kernel_rfl) rfl (by kernel_rfl) (by kernel_rfl) (by kernel_rfl) ?_
    have k3 := trivial
    apply Exists.intro
    refine ⟨fun ι _ φ hφ => ?_, fun v4 hv => ?_⟩
    · have d0 := fun i => mid_familyC hφ (At0.of_block (cs := [.string { data := #[] }, .string { data := #[116] }, .string { data := #[116, 97, 108, 108, 121] }]) kt) trivial _ ⟨i, rfl⟩ 0 _ rfl; simp only [Nat.zero_add] at d0
      repeat (refine pick_step rfl ?_; first
        | (refine quiet_load_mid _ _ _ 0 _ _ rfl rfl rfl (mid_familyC hφ k3 trivial) Try.underlying35 rfl (by kernel_rfl) ?_; simp only [Act.put, List.setIfInBounds_toArray, List.set_cons_succ, List.set_cons_zero])
        | go_big_quiet_step (fail))
      exact pick_end
    replace hb := below_next hb (by have := hb.size; omega) hv
    replace k0 := keeps hv k0
    replace k1 := keeps hv k1
    clear kt
    refine segS_one 2 _ (by decide) rfl (by kernel_rfl) ?_
    intro v2 K hv hK
    replace hb := below_next hb (by have := hb.size; omega) hv
    replace k0 := keeps hv k0
    replace k1 := keeps hv k1
    skip
    replace hK := Lib.hid hK
    go_simp
    refine (circ_zero_lit _).mono ?_
    rintro e v3 ⟨rfl, hv⟩
    refine hK.out _ _ (HeldS.of_below hv) ?_
    clear hK K
    replace hb := below_next hb (by have := hb.size; omega) hv
    replace k0 := keeps hv k0
    replace k1 := keeps hv k1
    skip
    refine segS_batch 0 [14] (by kernel_rfl) rfl (by kernel_rfl) (by kernel_rfl) (by kernel_rfl) ?_
    have k3 := trivial
    apply Exists.intro
    refine ⟨fun ι _ φ hφ => ?_, fun v4 hv => ?_⟩
    · skip
      repeat (refine pick_step rfl ?_; first
        | (refine quiet_load_mid _ _ _ 0 _ _ rfl rfl rfl (mid_familyC hφ k3 trivial) Try.underlying35 rfl (by kernel_rfl) ?_; simp only [Act.put, List.setIfInBounds_toArray, List.set_cons_succ, List.set_cons_zero])
        | go_big_quiet_step (fail))
      exact pick_end
    replace hb := below_next hb (by have := hb.size; omega) hv
    replace k0 := keeps hv k0
    replace k1 := keeps hv k1
    refine segS_tail (by kernel_rfl) ?_
    intro v9 hv
    replace hb := below_next hb (by have := hb.size; omega) hv
    replace k0 := keeps hv k0
    replace k1 := keeps hv k1
    clear hv
    simp only [List.drop_succ_cons, List.drop_zero]
    have hl1 := lt_of_get k1
    have hone := Lib.hid (one_list (l := task1) (by decide))
    go_wp2_with (first | (refine list_store_whole _ _ _ _ task1 task0 33 rfl rfl rfl rfl k1 rfl (by kernel_rfl) hone.out ?_; intro w7 hbut kr))
    refine calm_normal ?_
    go_wp2
    have hbe := hbut.below hb (by omega) (by omega)
    rw [← hq] at hbe
    have hld := loadVar_whole (ty := 33) (cs := task1) _ (At0.of_block kr) Try.underlying33 rfl (by kernel_rfl)
    refine bodyPost_ret (v := .agg task1.toArray) (results_cell1 Try.results6 rfl hld) rfl ⟨rfl, hbe⟩
/-- A collector: its task, what is wanted, what is under way, the last number, results. -/
def coll (W : Value) (now : Option Addr) (n : Int) : List Value := task1 ++ [W, .pointer now, .int .u64 n, .slice none 0 0]
set_option maxRecDepth 20000 in
set_option maxHeartbeats 4000000 in
theorem cnew_ok (w : World) : Calls Try.prog 5 #[.agg task1.toArray] w fun e w' => ∃ q, e = .returned (.tuple #[.pointer (some ⟨q, 0, none⟩), .int .i64 0]) ∧ Below w.heap.size w w' ∧ w.heap.size ≤ q ∧ w'.heap[q]? = some (.cells (coll (.slice none 0 0) none 0).toArray 56 (0, 0)) := by
  go_enter Try.func5, Try.ntmps5
  go_upto_region 1 with (fail)
  refine name_wp (fun w1 => Below w.heap.size w w1 ∧ w1.heap[w.heap.size]? = some (.cells task1.toArray 33 (0, 0))) ⟨(Below.refl _ _).alloc (Nat.le_refl _) _, alloc_at rfl⟩ ?_
  rintro w1 ⟨hb, k0⟩
  have hcm := At0.of_block k0
  go_wp2_with (first | (refine list_load_mid _ _ _ 0 _ _ rfl rfl rfl hcm Try.underlying33 rfl (by kernel_rfl) ?_))
  refine call_then (task_check _) ?_
  intro w2 hv
  replace hb := below_next hb hb.size hv
  replace k0 := keeps hv k0
  clear hv hcm
  have hcm := At0.of_block k0
  go_wp2_with (first | (refine list_load_mid _ _ _ 0 _ _ rfl rfl rfl hcm Try.underlying33 rfl (by kernel_rfl) ?_))
  refine bodyPost_ret (v := .tuple #[.pointer (some ⟨w2.heap.size, 0, none⟩), .int .i64 0]) (by simp [results, Try.results5, go_sem]) rfl ⟨w2.heap.size, rfl, hb.alloc hb.size _, hb.size, (alloc_at rfl).trans rfl⟩
end Go.Proofs.Ytnfikpkbneachaa
