/-
  What the program says of any numbers.
-/
import Derived.Test.YtnaakklfbegldaaStH
namespace Go.Proofs.Ytnaakklfbegldaa
open Go.RowKit Flow
set_option linter.unusedVariables false
set_option linter.unusedSimpArgs false
attribute [local go_sem] bits_run from_run

/-- How many; the least, the greatest, the middle one. -/
def told (ys : List Num) : Value := if ys.length = 0 then .agg #[.int .i64 0, .float .f64 9221120237041090561, .float .f64 9221120237041090561, .float .f64 9221120237041090561]
  else .agg #[.int .i64 (ys.length : Int), .float .f64 (ys.getD 0 default).1, .float .f64 (ys.getD (ys.length - 1) default).1, .float .f64 (ys.getD ((ys.length - 1) / 2) default).1]
def Ascends (ys : List Num) : Prop := ∀ i j, i < j → j < ys.length → key2 (ys.getD i default).1 ≤ key2 (ys.getD j default).1
theorem one4 (n : Int) (a b c : Nat) : ∀ u ∈ [Value.int .i64 n, .float .f64 a, .float .f64 b, .float .f64 c], u.oneCell' = true := by
  intro u hu
  simp only [List.mem_cons, List.not_mem_nil, or_false] at hu
  rcases hu with rfl | rfl | rfl | rfl <;> rfl
set_option maxRecDepth 20000 in
set_option maxHeartbeats 8000000 in
theorem summarize_any (b o c : Nat) (l : List Nat) (hl : l.length ≤ 200) (hlc : l.length ≤ c) (w : World) (hA : FloatsAt w (some ⟨b, o, none⟩) l) :
    Calls Try.prog 15 #[.slice (some ⟨b, o, none⟩) l.length c] w fun e w' => ∃ ys : List Num, e = .returned (told ys) ∧ ys.Perm (nums l) ∧ Ascends ys ∧ Below w.heap.size w w' := by
  have l0 : (l.length : Int) ≤ 200 := by omega
  have l1 : (l.length : Int) ≤ (c : Int) := by omega
  go_enter Try.func15, Try.ntmps15
  have hb := (Below.refl w.heap.size w).alloc (Nat.le_refl _) (.cells #[.int .i64 0, .float .f64 0, .float .f64 0, .float .f64 0] 43 (0, 0))
  go_wp2_with fail
  rw [show (min (l.length : Int) 4096).toNat = l.length by omega]
  refine (sorted_any (some ⟨b, o, none⟩) c l (by omega) _ (hA.up ((Below.refl _ _).alloc (Nat.le_refl _) _))).mono ?_
  rintro e w3 ⟨g, cap, ys, rfl, hb3, hperm, hsorted, hys⟩
  have hle : ys.length ≤ 200 := by
    have h1 := hperm.length_eq
    have h2 := nums_len l l.length
    rw [List.take_length] at h2
    omega
  have kz : w3.heap[w.heap.size]? = some (.cells #[.int .i64 0, .float .f64 0, .float .f64 0, .float .f64 0] 43 (0, 0)) := keeps hb3 (alloc_at rfl)
  replace hb := below_next hb hb.size hb3
  clear hb3
  by_cases hz : ys.length = 0
  · have hz' : (ys.length : Int) = 0 := by omega
    have ht : told ys = .agg #[.int .i64 0, .float .f64 9221120237041090561, .float .f64 9221120237041090561, .float .f64 9221120237041090561] := if_pos hz
    clear hys
    go_wp2_with fail
    refine call_then (nan_any _) ?_
    intro w4 hb2
    replace hb := below_next hb hb.size hb2
    replace kz := keeps hb2 kz
    clear hb2
    go_wp2_with fail
    refine call_then (nan_any _) ?_
    intro w5 hb2
    replace hb := below_next hb hb.size hb2
    replace kz := keeps hb2 kz
    clear hb2
    go_wp2_with fail
    refine call_then (nan_any _) ?_
    intro w6 hb2
    replace hb := below_next hb hb.size hb2
    replace kz := keeps hb2 kz
    clear hb2
    go_wp2_with (first
      | (refine list_store_whole _ _ _ _ [.int .i64 0, .float .f64 9221120237041090561, .float .f64 9221120237041090561, .float .f64 9221120237041090561] [.int .i64 0, .float .f64 0, .float .f64 0, .float .f64 0] 43 rfl rfl rfl rfl kz rfl (by kernel_rfl) (one4 _ _ _ _) ?_; intro w8 hbut kz2; replace hb := hbut.below hb (Nat.le_refl _) hb.size))
    have hld := loadVar_whole _ (At0.of_block kz2) Try.underlying43 rfl (by kernel_rfl)
    exact bodyPost_ret (v := told ys) (results_cell1 Try.results15 rfl (by rw [ht]; exact hld)) rfl ⟨ys, rfl, hperm, hsorted, hb⟩
  · obtain ⟨m, hm⟩ : ∃ m, ys.length = m + 1 := ⟨ys.length - 1, by omega⟩
    have ht : told ys = .agg #[.int .i64 (ys.length : Int), .float .f64 (ys.getD 0 default).1, .float .f64 (ys.getD m default).1, .float .f64 (ys.getD (m / 2) default).1] := by
      unfold told
      rw [if_neg hz, show ys.length - 1 = m by omega]
    have t0 := hys 0 (by omega)
    have t1 := hys m (by omega)
    have t2 := hys (m / 2) (by omega)
    have ez : ¬ (ys.length : Int) = 0 := by omega
    have e1 : (ys.length : Int) - 1 = (m : Int) := by omega
    have e2 : (m : Int) / 2 = ((m / 2 : Nat) : Int) := by omega
    have m0 : (0 : Int) ≤ (m : Int) := by omega
    have m1 : (m : Int) < (ys.length : Int) := by omega
    have m2 : ((m / 2 : Nat) : Int) < (ys.length : Int) := by omega
    have m3 : (0 : Int) ≤ ((m / 2 : Nat) : Int) := by omega
    have n1 : (0 : Int) < (ys.length : Int) := by omega
    have n2 : (ys.length : Int) ≤ 200 := by omega
    clear hys hm hz
    generalize (ys.getD 0 default).1 = x0 at *
    generalize (ys.getD m default).1 = x1 at *
    generalize (ys.getD (m / 2) default).1 = x2 at *
    generalize m / 2 = q at *
    go_wp2
    refine seg_start 16 (by kernel_rfl) (by decide) ?_
    intro v0 hv0
    have u0 := (hv0.cell (p := ⟨g, 0, none⟩) (cell_lt t0)).trans t0
    have u1 := (hv0.cell (p := ⟨g, m, none⟩) (cell_lt t0)).trans t1
    have u2 := (hv0.cell (p := ⟨g, q, none⟩) (cell_lt t0)).trans t2
    replace hb := below_next hb hb.size hv0
    replace kz := keeps hv0 kz
    clear hv0 t0 t1 t2
    refine seg_batch 0 [0, 1, 2, 3, 4, 5, 6, 7, 8, 9, 10, 11, 12, 13, 14, 15] (by kernel_rfl) rfl (by kernel_rfl) (by kernel_rfl) (by kernel_rfl) ?_
    apply Exists.intro
    refine ⟨fun ι _ φ hφ => ?_, fun v1 hv1 => ?_⟩
    · have f0 : ∀ i, (φ i).cell? ⟨g, 0, none⟩ = _ := fun i => ((hφ.old i).cell (p := ⟨g, 0, none⟩) (cell_lt u0)).trans u0
      have f1 : ∀ i, (φ i).cell? ⟨g, m, none⟩ = _ := fun i => ((hφ.old i).cell (p := ⟨g, m, none⟩) (cell_lt u0)).trans u1
      have f2 : ∀ i, (φ i).cell? ⟨g, q, none⟩ = _ := fun i => ((hφ.old i).cell (p := ⟨g, q, none⟩) (cell_lt u0)).trans u2
      repeat (refine pick_step rfl ?_; go_big_quiet_step (fail))
      exact pick_end
    replace hb := below_next hb hb.size hv1
    replace kz := keeps hv1 kz
    clear hv1 u0 u1 u2
    refine seg_tail (by kernel_rfl) ?_
    intro v7 hv7
    replace hb := below_next hb hb.size hv7
    replace kz := keeps hv7 kz
    clear hv7
    simp only [List.drop_succ_cons, List.drop_zero]
    go_wp2_with (first
      | (refine list_store_whole _ _ _ _ [.int .i64 (ys.length : Int), .float .f64 x0, .float .f64 x1, .float .f64 x2] [.int .i64 0, .float .f64 0, .float .f64 0, .float .f64 0] 43 rfl rfl rfl rfl kz rfl (by kernel_rfl) (one4 _ _ _ _) ?_; intro w8 hbut kz2; replace hb := hbut.below hb (Nat.le_refl _) hb.size))
    refine calm_normal ?_
    go_wp2
    have hld := loadVar_whole _ (At0.of_block kz2) Try.underlying43 rfl (by kernel_rfl)
    exact bodyPost_ret (v := told ys) (results_cell1 Try.results15 rfl (by rw [ht]; exact hld)) rfl ⟨ys, rfl, hperm, hsorted, hb⟩
end Go.Proofs.Ytnaakklfbegldaa
