/-
  What the program says of nil, and of no number at all.
-/
import Derived.Test.YtnaakklfbegldaaStI
namespace Go.Proofs.Ytnaakklfbegldaa
open Go.RowKit Flow
set_option linter.unusedVariables false
set_option linter.unusedSimpArgs false
attribute [local go_sem] bits_run from_run

set_option maxRecDepth 20000 in
set_option maxHeartbeats 8000000 in
theorem summarize_nil (w : World) : Calls Try.prog 15 #[.slice none 0 0] w fun e w' => e = .returned (told []) ∧ Below w.heap.size w w' := by
  have hs := fun w => sorted_any none 0 [] (by decide) w (fun k hk => absurd hk (by simp))
  replace hs := Lib.hid hs
  go_enter Try.func15, Try.ntmps15
  have hb := (Below.refl w.heap.size w).alloc (Nat.le_refl _) (.cells #[.int .i64 0, .float .f64 0, .float .f64 0, .float .f64 0] 43 (0, 0))
  go_wp2_with fail
  refine (hs.out _).mono ?_
  rintro e w3 ⟨g, cap, ys, rfl, hb3, hperm, _, _⟩
  obtain rfl : ys = [] := by
    have : nums [] = [] := rfl
    rw [this] at hperm
    exact hperm.eq_nil
  have kz : w3.heap[w.heap.size]? = some (.cells #[.int .i64 0, .float .f64 0, .float .f64 0, .float .f64 0] 43 (0, 0)) := keeps hb3 (alloc_at rfl)
  replace hb := below_next hb hb.size hb3
  clear hb3 hperm
  have ht : told [] = .agg #[.int .i64 0, .float .f64 9221120237041090561, .float .f64 9221120237041090561, .float .f64 9221120237041090561] := if_pos rfl
  go_wp2_with fail
  refine call_then (nan_any _) ?_
  intro w4 hb2
  replace hb := below_next hb hb.size hb2
  replace kz := keeps hb2 kz
  clear hb2
  go_wp2_with fail
  refine call_then (nan_any _) ?_
  intro w5 hb2
  replace hb := below_next hb hb.size hb2
  replace kz := keeps hb2 kz
  clear hb2
  go_wp2_with fail
  refine call_then (nan_any _) ?_
  intro w6 hb2
  replace hb := below_next hb hb.size hb2
  replace kz := keeps hb2 kz
  clear hb2
  go_wp2_with (first
    | (refine list_store_whole _ _ _ _ [.int .i64 0, .float .f64 9221120237041090561, .float .f64 9221120237041090561, .float .f64 9221120237041090561] [.int .i64 0, .float .f64 0, .float .f64 0, .float .f64 0] 43 rfl rfl rfl rfl kz rfl (by kernel_rfl) (one4 _ _ _ _) ?_; intro w8 hbut kz2; replace hb := hbut.below hb (Nat.le_refl _) hb.size))
  have hld := loadVar_whole _ (At0.of_block kz2) Try.underlying43 rfl (by kernel_rfl)
  exact bodyPost_ret (v := told []) (results_cell1 Try.results15 rfl (by rw [ht]; exact hld)) rfl ⟨rfl, hb⟩
set_option maxRecDepth 20000 in
set_option maxHeartbeats 8000000 in
theorem summarize_empty (a : Addr) (c : Nat) (w : World) : Calls Try.prog 15 #[.slice (some a) 0 c] w fun e w' => e = .returned (told []) ∧ Below w.heap.size w w' := by
  have hs := fun w => sorted_any (some a) c [] (by decide) w (fun k hk => absurd hk (by simp))
  have c0 : (0 : Int) ≤ (c : Int) := by omega
  replace hs := Lib.hid hs
  go_enter Try.func15, Try.ntmps15
  have hb := (Below.refl w.heap.size w).alloc (Nat.le_refl _) (.cells #[.int .i64 0, .float .f64 0, .float .f64 0, .float .f64 0] 43 (0, 0))
  go_wp2_with fail
  refine (hs.out _).mono ?_
  rintro e w3 ⟨g, cap, ys, rfl, hb3, hperm, _, _⟩
  obtain rfl : ys = [] := by
    have : nums [] = [] := rfl
    rw [this] at hperm
    exact hperm.eq_nil
  have kz : w3.heap[w.heap.size]? = some (.cells #[.int .i64 0, .float .f64 0, .float .f64 0, .float .f64 0] 43 (0, 0)) := keeps hb3 (alloc_at rfl)
  replace hb := below_next hb hb.size hb3
  clear hb3 hperm
  have ht : told [] = .agg #[.int .i64 0, .float .f64 9221120237041090561, .float .f64 9221120237041090561, .float .f64 9221120237041090561] := if_pos rfl
  go_wp2_with fail
  refine call_then (nan_any _) ?_
  intro w4 hb2
  replace hb := below_next hb hb.size hb2
  replace kz := keeps hb2 kz
  clear hb2
  go_wp2_with fail
  refine call_then (nan_any _) ?_
  intro w5 hb2
  replace hb := below_next hb hb.size hb2
  replace kz := keeps hb2 kz
  clear hb2
  go_wp2_with fail
  refine call_then (nan_any _) ?_
  intro w6 hb2
  replace hb := below_next hb hb.size hb2
  replace kz := keeps hb2 kz
  clear hb2
  go_wp2_with (first
    | (refine list_store_whole _ _ _ _ [.int .i64 0, .float .f64 9221120237041090561, .float .f64 9221120237041090561, .float .f64 9221120237041090561] [.int .i64 0, .float .f64 0, .float .f64 0, .float .f64 0] 43 rfl rfl rfl rfl kz rfl (by kernel_rfl) (one4 _ _ _ _) ?_; intro w8 hbut kz2; replace hb := hbut.below hb (Nat.le_refl _) hb.size))
  have hld := loadVar_whole _ (At0.of_block kz2) Try.underlying43 rfl (by kernel_rfl)
  exact bodyPost_ret (v := told []) (results_cell1 Try.results15 rfl (by rw [ht]; exact hld)) rfl ⟨rfl, hb⟩
end Go.Proofs.Ytnaakklfbegldaa
