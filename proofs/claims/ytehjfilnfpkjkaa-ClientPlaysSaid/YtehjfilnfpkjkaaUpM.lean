/-
  A client: how it was answered (begun, for ClientPlays).
-/
import Derived.Test.YtehjfilnfpkjkaaUpI
namespace Go.Proofs.Ytehjfilnfpkjkaa
open Go.RowKit Flow
set_option linter.unusedVariables false
set_option linter.unusedSimpArgs false

theorem cl_codes {q : Nat} {E0 E1 : Value} {a0 a1 : Bool} {k0 k1 f wt nx sent : Int} {w : World} {t : TypeId} (h : w.heap[q]? = some (.cells (up22 E0 ++ up22 E1 ++ clTail a0 a1 k0 k1 f wt nx sent).toArray t (0, 0))) : w.rangeAt q 46 [.int .i64 k0, .int .i64 k1] := fun j u hj => by
  have g := At0.of_block h
  match j, hj with
  | 0, hj =>
    cases hj
    have := g 46 (.int .i64 k0) rfl
    simpa using this
  | 1, hj =>
    cases hj
    have := g 47 (.int .i64 k1) rfl
    simpa using this
set_option maxRecDepth 20000 in
set_option maxHeartbeats 4000000 in
theorem done_any (q : Nat) (E0 E1 : Value) (a0 a1 : Bool) (k0 k1 f wt nx sent : Int) (w : World) (hcl : w.heap[q]? = some (.cells (up22 E0 ++ up22 E1 ++ clTail a0 a1 k0 k1 f wt nx sent).toArray 59 (0, 0))) :
    Calls Try.prog 6 #[.pointer (some ⟨q, 0, none⟩)] w fun e w' => e = .returned (.tuple #[.bool (a0 && a1), .agg #[.int .i64 k0, .int .i64 k1]]) ∧ Below w.heap.size w w' := by
  obtain ⟨c44, c45, _⟩ := cl_cells hcl
  have hk := cl_codes hcl
  have hbA := (Below.refl w.heap.size w).alloc (Nat.le_refl _) (.cells #[.int .i64 0, .int .i64 0] 31 (0, 0))
  have d44 := (hbA.cell (World.block_lt_of_cell? _ _ c44)).trans c44
  have d45 := (hbA.cell (World.block_lt_of_cell? _ _ c45)).trans c45
  have dk : (w.alloc (.cells #[.int .i64 0, .int .i64 0] 31 (0, 0))).rangeAt q 46 [.int .i64 k0, .int .i64 k1] := fun j u hj => (hbA.cell (World.block_lt_of_cell? _ _ (hk j u hj))).trans (hk j u hj)
  clear c44 c45 hk hcl
  cases a0 <;> cases a1
  · skip
    go_enter Try.func6, Try.ntmps6
    go_wp2
    refine wp_region_flow1 17 (by kernel_rfl) (by kernel_rfl) (by kernel_rfl) ?_
    apply Exists.intro
    refine ⟨fun ι _ φ hφ => ?_, fun w6 hv => ?_⟩
    · have e44 := fun i => ((hφ.old i).cell (World.block_lt_of_cell? _ _ d44)).trans d44
      have e45 := fun i => ((hφ.old i).cell (World.block_lt_of_cell? _ _ d45)).trans d45
      simp only [List.take_succ_cons, List.take_zero]
      repeat (first
        | (refine quiet_load_mid _ _ _ 46 _ _ rfl rfl rfl (fun w9 ⟨i, e⟩ j v hj => by subst e; exact ((hφ.old i).cell (World.block_lt_of_cell? _ _ (dk j v hj))).trans (dk j v hj)) Try.underlying31 rfl (by kernel_rfl) ?_; simp only [Act.put, List.setIfInBounds_toArray, List.set_cons_succ, List.set_cons_zero])
        | go_big_quiet_step (fail))
      exact wpQuiet_nil rfl
    have k3 : w6.heap[w.heap.size]? = some (.cells #[.int .i64 0, .int .i64 0] 31 (0, 0)) := keeps hv (alloc_at rfl)
    have hb6 : Below w.heap.size w w6 := below_next hbA (by simp) hv
    clear hv d44 d45 dk hbA
    simp only [List.drop_succ_cons, List.drop_zero]
    go_wp2_with (first | (refine list_store_whole _ _ _ _ [.int .i64 k0, .int .i64 k1] [.int .i64 0, .int .i64 0] 31 rfl rfl rfl rfl k3 rfl (by kernel_rfl) (one_listU rfl) ?_; intro w7 hbut k7))
    rw [put_noneU]
    have x0 : w7.cell? ⟨w.heap.size, 0, none⟩ = some (.int .i64 k0) := At0.of_block k7 0 _ rfl
    have x1 : w7.cell? ⟨w.heap.size, 1, none⟩ = some (.int .i64 k1) := At0.of_block k7 1 _ rfl
    have hbe := hbut.below hb6 (Nat.le_refl _) hb6.size
    refine bodyPost_ret (v := .tuple #[.bool _, .agg #[.int .i64 k0, .int .i64 k1]]) (by simp [results, Try.results6, go_sem, x0, x1]) rfl ⟨rfl, hbe⟩
  · skip
    go_enter Try.func6, Try.ntmps6
    go_wp2
    refine wp_region_flow1 17 (by kernel_rfl) (by kernel_rfl) (by kernel_rfl) ?_
    apply Exists.intro
    refine ⟨fun ι _ φ hφ => ?_, fun w6 hv => ?_⟩
    · have e44 := fun i => ((hφ.old i).cell (World.block_lt_of_cell? _ _ d44)).trans d44
      have e45 := fun i => ((hφ.old i).cell (World.block_lt_of_cell? _ _ d45)).trans d45
      simp only [List.take_succ_cons, List.take_zero]
      repeat (first
        | (refine quiet_load_mid _ _ _ 46 _ _ rfl rfl rfl (fun w9 ⟨i, e⟩ j v hj => by subst e; exact ((hφ.old i).cell (World.block_lt_of_cell? _ _ (dk j v hj))).trans (dk j v hj)) Try.underlying31 rfl (by kernel_rfl) ?_; simp only [Act.put, List.setIfInBounds_toArray, List.set_cons_succ, List.set_cons_zero])
        | go_big_quiet_step (fail))
      exact wpQuiet_nil rfl
    have k3 : w6.heap[w.heap.size]? = some (.cells #[.int .i64 0, .int .i64 0] 31 (0, 0)) := keeps hv (alloc_at rfl)
    have hb6 : Below w.heap.size w w6 := below_next hbA (by simp) hv
    clear hv d44 d45 dk hbA
    simp only [List.drop_succ_cons, List.drop_zero]
    go_wp2_with (first | (refine list_store_whole _ _ _ _ [.int .i64 k0, .int .i64 k1] [.int .i64 0, .int .i64 0] 31 rfl rfl rfl rfl k3 rfl (by kernel_rfl) (one_listU rfl) ?_; intro w7 hbut k7))
    rw [put_noneU]
    have x0 : w7.cell? ⟨w.heap.size, 0, none⟩ = some (.int .i64 k0) := At0.of_block k7 0 _ rfl
    have x1 : w7.cell? ⟨w.heap.size, 1, none⟩ = some (.int .i64 k1) := At0.of_block k7 1 _ rfl
    have hbe := hbut.below hb6 (Nat.le_refl _) hb6.size
    refine bodyPost_ret (v := .tuple #[.bool _, .agg #[.int .i64 k0, .int .i64 k1]]) (by simp [results, Try.results6, go_sem, x0, x1]) rfl ⟨rfl, hbe⟩
  · skip
    go_enter Try.func6, Try.ntmps6
    go_wp2
    refine wp_region_flow1 17 (by kernel_rfl) (by kernel_rfl) (by kernel_rfl) ?_
    apply Exists.intro
    refine ⟨fun ι _ φ hφ => ?_, fun w6 hv => ?_⟩
    · have e44 := fun i => ((hφ.old i).cell (World.block_lt_of_cell? _ _ d44)).trans d44
      have e45 := fun i => ((hφ.old i).cell (World.block_lt_of_cell? _ _ d45)).trans d45
      simp only [List.take_succ_cons, List.take_zero]
      repeat (first
        | (refine quiet_load_mid _ _ _ 46 _ _ rfl rfl rfl (fun w9 ⟨i, e⟩ j v hj => by subst e; exact ((hφ.old i).cell (World.block_lt_of_cell? _ _ (dk j v hj))).trans (dk j v hj)) Try.underlying31 rfl (by kernel_rfl) ?_; simp only [Act.put, List.setIfInBounds_toArray, List.set_cons_succ, List.set_cons_zero])
        | go_big_quiet_step (fail))
      exact wpQuiet_nil rfl
    have k3 : w6.heap[w.heap.size]? = some (.cells #[.int .i64 0, .int .i64 0] 31 (0, 0)) := keeps hv (alloc_at rfl)
    have hb6 : Below w.heap.size w w6 := below_next hbA (by simp) hv
    clear hv d44 d45 dk hbA
    simp only [List.drop_succ_cons, List.drop_zero]
    go_wp2_with (first | (refine list_store_whole _ _ _ _ [.int .i64 k0, .int .i64 k1] [.int .i64 0, .int .i64 0] 31 rfl rfl rfl rfl k3 rfl (by kernel_rfl) (one_listU rfl) ?_; intro w7 hbut k7))
    rw [put_noneU]
    have x0 : w7.cell? ⟨w.heap.size, 0, none⟩ = some (.int .i64 k0) := At0.of_block k7 0 _ rfl
    have x1 : w7.cell? ⟨w.heap.size, 1, none⟩ = some (.int .i64 k1) := At0.of_block k7 1 _ rfl
    have hbe := hbut.below hb6 (Nat.le_refl _) hb6.size
    refine bodyPost_ret (v := .tuple #[.bool _, .agg #[.int .i64 k0, .int .i64 k1]]) (by simp [results, Try.results6, go_sem, x0, x1]) rfl ⟨rfl, hbe⟩
  · skip
    go_enter Try.func6, Try.ntmps6
    go_wp2
    refine wp_region_flow1 17 (by kernel_rfl) (by kernel_rfl) (by kernel_rfl) ?_
    apply Exists.intro
    refine ⟨fun ι _ φ hφ => ?_, fun w6 hv => ?_⟩
    · have e44 := fun i => ((hφ.old i).cell (World.block_lt_of_cell? _ _ d44)).trans d44
      have e45 := fun i => ((hφ.old i).cell (World.block_lt_of_cell? _ _ d45)).trans d45
      simp only [List.take_succ_cons, List.take_zero]
      repeat (first
        | (refine quiet_load_mid _ _ _ 46 _ _ rfl rfl rfl (fun w9 ⟨i, e⟩ j v hj => by subst e; exact ((hφ.old i).cell (World.block_lt_of_cell? _ _ (dk j v hj))).trans (dk j v hj)) Try.underlying31 rfl (by kernel_rfl) ?_; simp only [Act.put, List.setIfInBounds_toArray, List.set_cons_succ, List.set_cons_zero])
        | go_big_quiet_step (fail))
      exact wpQuiet_nil rfl
    have k3 : w6.heap[w.heap.size]? = some (.cells #[.int .i64 0, .int .i64 0] 31 (0, 0)) := keeps hv (alloc_at rfl)
    have hb6 : Below w.heap.size w w6 := below_next hbA (by simp) hv
    clear hv d44 d45 dk hbA
    simp only [List.drop_succ_cons, List.drop_zero]
    go_wp2_with (first | (refine list_store_whole _ _ _ _ [.int .i64 k0, .int .i64 k1] [.int .i64 0, .int .i64 0] 31 rfl rfl rfl rfl k3 rfl (by kernel_rfl) (one_listU rfl) ?_; intro w7 hbut k7))
    rw [put_noneU]
    have x0 : w7.cell? ⟨w.heap.size, 0, none⟩ = some (.int .i64 k0) := At0.of_block k7 0 _ rfl
    have x1 : w7.cell? ⟨w.heap.size, 1, none⟩ = some (.int .i64 k1) := At0.of_block k7 1 _ rfl
    have hbe := hbut.below hb6 (Nat.le_refl _) hb6.size
    refine bodyPost_ret (v := .tuple #[.bool _, .agg #[.int .i64 k0, .int .i64 k1]]) (by simp [results, Try.results6, go_sem, x0, x1]) rfl ⟨rfl, hbe⟩
end Go.Proofs.Ytehjfilnfpkjkaa
