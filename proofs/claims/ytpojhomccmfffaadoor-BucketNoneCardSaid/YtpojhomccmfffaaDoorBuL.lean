/-
  Windows: a book that is none.
-/
import Derived.Test.YtpojhomccmfffaaDoorBuH
namespace Go.Proofs.YtpojhomccmfffaaDoor
open Go.RowKit Flow F
set_option linter.unusedVariables false
set_option linter.unusedSimpArgs false

set_option maxRecDepth 20000 in
set_option maxHeartbeats 2000000 in
theorem fits_none (now : Int) (w : World) : Calls Tryd.prog 40 #[.pointer none, .int .u64 now] w fun e w' => e = .returned (.int .i64 1) ∧ Below w.heap.size w w' := by
  go_enter Tryd.func40, Tryd.ntmps40
  go_wp2
  go_ret
  exact ⟨rfl, Below.refl _ _⟩
set_option maxRecDepth 20000 in
set_option maxHeartbeats 2000000 in
theorem badd_none (now : Int) (ns : List Nat) (o : Value) (w : World) : Calls Tryd.prog 39 #[.pointer none, .int .u64 now, .agg (idc ns).toArray, o] w fun e w' => e = .returned (.int .i64 1) ∧ Below w.heap.size w w' := by
  have hF := Lib.hid (fun w => fits_none now w)
  go_enter Tryd.func39, Tryd.ntmps39
  go_wp2_with fail
  refine call_then (hF.out _) ?_
  intro w2 hv
  have hb := below_next ((Below.refl w.heap.size w).alloc (Nat.le_refl _) (.cells (idc ns).toArray 51 (0, 0))) (by simp) hv
  go_wp2
  go_ret
  exact ⟨rfl, hb⟩
set_option maxRecDepth 20000 in
set_option maxHeartbeats 2000000 in
theorem close_none (now : Int) (w : World) : Calls Tryd.prog 37 #[.pointer none, .int .u64 now] w fun e w' => e = .returned (.tuple #[.agg noTot.toArray, .int .i64 1]) ∧ Below w.heap.size w w' := by
  have hone := Lib.hid (one_tot (A := none) (n := 0) (cp := 0) 0 (fun _ => 0))
  go_enter Tryd.func37, Tryd.ntmps37
  go_wp2_with (first
    | (refine list_store_whole _ _ _ _ noTot noTot 39 rfl rfl rfl rfl (alloc_at rfl) rfl (by kernel_rfl) hone.out ?_; intro w7 hbut kr))
  have hbe := hbut.below ((Below.refl w.heap.size w).alloc (Nat.le_refl _) _) (Nat.le_refl _) (by simp)
  have hlv := loadVar_whole (P := Tryd.prog) (ty := 39) _ (At0.of_block kr) Tryd.underlying39 rfl (by kernel_rfl)
  exact bodyPost_ret (v := .tuple #[.agg noTot.toArray, .int .i64 1]) (results_cell_tmpT Tryd.results37 rfl hlv rfl) rfl ⟨rfl, hbe⟩
set_option maxRecDepth 20000 in
set_option maxHeartbeats 2000000 in
theorem bget_none (now : Int) (w : World) : Calls Tryd.prog 38 #[.pointer none, .int .u64 now] w fun e w' => e = .returned (.tuple #[.agg noBk.toArray, .bool false]) ∧ Below w.heap.size w w' := by
  have hone := Lib.hid (one_bks (A := none) (n := 0) (cp := 0) 0 0 (fun _ => 0) false)
  go_enter Tryd.func38, Tryd.ntmps38
  go_wp2_with (first
    | (refine list_store_whole _ _ _ _ noBk noBk 95 rfl rfl rfl rfl (alloc_at rfl) rfl (by kernel_rfl) hone.out ?_; intro w7 hbut kr))
  have hbe := hbut.below ((Below.refl w.heap.size w).alloc (Nat.le_refl _) _) (Nat.le_refl _) (by simp)
  have hlv := loadVar_whole (P := Tryd.prog) (ty := 95) _ (At0.of_block kr) Tryd.underlying95 rfl (by kernel_rfl)
  exact bodyPost_ret (v := .tuple #[.agg noBk.toArray, .bool false]) (results_cell_tmpT Tryd.results38 rfl hlv rfl) rfl ⟨rfl, hbe⟩
set_option maxRecDepth 20000 in
set_option maxHeartbeats 2000000 in
theorem blist_none (w : World) : Calls Tryd.prog 41 #[.pointer none] w fun e w' => e = .returned (.slice none 0 0) ∧ Below w.heap.size w w' := by
  go_enter Tryd.func41, Tryd.ntmps41
  go_wp2
  go_ret
  exact ⟨rfl, Below.refl _ _⟩
set_option maxRecDepth 20000 in
set_option maxHeartbeats 2000000 in
theorem brules_none (w : World) : Calls Tryd.prog 42 #[.pointer none] w fun e w' => e = .returned (.agg #[.int .u64 0, .int .i64 0, .int .i64 0]) ∧ Below w.heap.size w w' := by
  go_enter Tryd.func42, Tryd.ntmps42
  go_wp2
  refine bodyPost_ret (v := .agg #[.int .u64 0, .int .i64 0, .int .i64 0]) (by simp [results, Tryd.results42, go_sem]) rfl ⟨rfl, ?_⟩
  exact (Below.refl _ _).alloc (Nat.le_refl _) _
end Go.Proofs.YtpojhomccmfffaaDoor
