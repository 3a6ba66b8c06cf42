/-
  Contracts of the reference's elements: numbers as elements.
-/
import Derived.Test.YtnlnbikiocdpdaaDoorRefA
import Derived.Test.YtnlnbikiocdpdaaDoorFlow
import Derived.BigQuiet
namespace Go.Proofs.YtnlnbikiocdpdaaDoor
open Go.RowKit F Flow


set_option maxHeartbeats 1000000 in
theorem of_big (f x : Int) (hf : f ≠ 1) (h1 : x < 340282366920938463463374607431768211456) (hc : M f ≤ x) (w : World) :
    Calls Tryd.prog 15 #[.int .i64 f, .agg #[.int .u64 (lo x), .int .u64 (hi x)]] w fun e w' => e = .returned (.agg #[.int .u64 (lo (x - M f)), .int .u64 (hi (x - M f))]) ∧ Below w.heap.size w w' := by
  have hd : decide (x < M f) = false := by simp; omega
  have hM := M_pos f
  go_enter Tryd.func15, Tryd.ntmps15
  go_wp2
  refine wp_region_flow0 (by kernel_rfl) (by kernel_rfl) ?_
  intro ι _ φ hφ
  have c0 := hφ.cell (p := ⟨w.heap.size, 0, none⟩) (v := .int .u64 (lo x)) (by simp)
  have c1 := hφ.cell (p := ⟨w.heap.size, 1, none⟩) (v := .int .u64 (hi x)) (by simp)
  repeat (go_big_quiet_step ((first
    | (go_at_call 31; exact flow_call hφ (p_any f _))
    | (go_at_call 30; exact flow_call hφ (less_any x (M f) _)))))
  refine wpQuiet_nil ?_
  intro w2 hw2
  clear c0 c1 hφ
  have b2 : Below w.heap.size w w2 := (((Below.refl _ _).alloc (Nat.le_refl _) _).alloc (by simp) _).trans (hw2.mono (by simp; omega))
  have k0 : w2.heap[w.heap.size]? = some (.cells #[.int .u64 (lo x), .int .u64 (hi x)] 34 (0, 0)) := keeps hw2 (alloc_keeps (alloc_at rfl))
  have k1 : w2.heap[w.heap.size + 1]? = some (.cells #[.int .u64 0, .int .u64 0] 34 (0, 0)) := keeps hw2 (alloc_at (by simp))
  clear hw2
  obtain ⟨c0, d0, f0, g0⟩ := blk2 k0
  obtain ⟨c1, d1, f1, g1⟩ := blk2 k1
  go_wp2
  refine wp_region_flow1 4 (by kernel_rfl) (by kernel_rfl) (by kernel_rfl) ?_
  apply Exists.intro
  refine ⟨fun ι _ φ hφ => ?_, fun w3 hw3 => ?_⟩
  · have e0 := hφ.cell c0
    have e1 := hφ.cell d0
    simp only [List.take_succ_cons, List.take_zero]
    repeat (go_big_quiet_step ((first
      | (go_at_call 31; exact flow_call hφ (p_any f _))
      | (go_at_call 32; exact flow_call hφ (take_any x (M f) (by omega) hc h1 _)))))
    exact wpQuiet_nil rfl
  · have m1 := keeps hw3 k1
    have b3 := b2.trans (hw3.mono (b2.size))
    clear hw3 c0 d0 f0 g0 c1 d1 f1 g1 k0 k1 b2
    obtain ⟨c1, d1, f1, g1⟩ := blk2 m1
    simp only [List.drop_succ_cons, List.drop_zero]
    go_wp2
    obtain ⟨c2, d2, _, _⟩ := blk2 (store2 (u := .int .u64 (lo (x - M f))) (v := .int .u64 (hi (x - M f))) m1)
    exact bodyPost_ret (v := .agg #[.int .u64 (lo (x - M f)), .int .u64 (hi (x - M f))]) (by simp [results, Tryd.results15, go_sem, c2, d2]) rfl ⟨rfl, below_store2 b3 (by omega)⟩

set_option maxHeartbeats 1000000 in
theorem of_small (f x : Int) (hf : f ≠ 1) (hc : x < M f) (w : World) :
    Calls Tryd.prog 15 #[.int .i64 f, .agg #[.int .u64 (lo x), .int .u64 (hi x)]] w fun e w' => e = .returned (.agg #[.int .u64 (lo x), .int .u64 (hi x)]) ∧ Below w.heap.size w w' := by
  have hd : decide (x < M f) = true := by simpa using hc
  go_enter Tryd.func15, Tryd.ntmps15
  go_wp2
  refine wp_region_flow0 (by kernel_rfl) (by kernel_rfl) ?_
  intro ι _ φ hφ
  have c0 := hφ.cell (p := ⟨w.heap.size, 0, none⟩) (v := .int .u64 (lo x)) (by simp)
  have c1 := hφ.cell (p := ⟨w.heap.size, 1, none⟩) (v := .int .u64 (hi x)) (by simp)
  repeat (go_big_quiet_step ((first
    | (go_at_call 31; exact flow_call hφ (p_any f _))
    | (go_at_call 30; exact flow_call hφ (less_any x (M f) _)))))
  refine wpQuiet_nil ?_
  intro w2 hw2
  clear c0 c1 hφ
  have b2 : Below w.heap.size w w2 := (((Below.refl _ _).alloc (Nat.le_refl _) _).alloc (by simp) _).trans (hw2.mono (by simp; omega))
  have k0 : w2.heap[w.heap.size]? = some (.cells #[.int .u64 (lo x), .int .u64 (hi x)] 34 (0, 0)) := keeps hw2 (alloc_keeps (alloc_at rfl))
  have k1 : w2.heap[w.heap.size + 1]? = some (.cells #[.int .u64 0, .int .u64 0] 34 (0, 0)) := keeps hw2 (alloc_at (by simp))
  clear hw2
  obtain ⟨c0, d0, f0, g0⟩ := blk2 k0
  obtain ⟨c1, d1, f1, g1⟩ := blk2 k1
  go_wp2
  obtain ⟨c2, d2, _, _⟩ := blk2 (store2 (u := .int .u64 (lo x)) (v := .int .u64 (hi x)) k1)
  exact bodyPost_ret (v := .agg #[.int .u64 (lo x), .int .u64 (hi x)]) (by simp [results, Tryd.results15, go_sem, c2, d2]) rfl ⟨rfl, below_store2 b2 (by omega)⟩

theorem less_lo (x y : Int) (w : World) :
    Calls Tryd.prog 30 #[.agg #[.int .u64 (lo x), .int .u64 0], .agg #[.int .u64 (lo y), .int .u64 (hi y)]] w fun e w' => e = .returned (.bool (decide (lo x < y))) ∧ Below w.heap.size w w' := by
  have h := less_any (lo x) y w
  rw [lo_lo, hi_lo] at h
  exact h
theorem take_lo (x y : Int) (hy : 0 ≤ y) (h : y ≤ lo x) (w : World) :
    Calls Tryd.prog 32 #[.agg #[.int .u64 (lo x), .int .u64 0], .agg #[.int .u64 (lo y), .int .u64 (hi y)]] w fun e w' => e = .returned (.agg #[.int .u64 (lo (lo x - y)), .int .u64 (hi (lo x - y))]) ∧ Below w.heap.size w w' := by
  have h := take_any (lo x) y hy h (by have := lo_lt x; omega) w
  rw [lo_lo, hi_lo] at h
  exact h

set_option maxHeartbeats 1000000 in
theorem of_big1 (x z : Int) (hc : M 1 ≤ lo x) (w : World) :
    Calls Tryd.prog 15 #[.int .i64 1, .agg #[.int .u64 (lo x), .int .u64 z]] w fun e w' => e = .returned (.agg #[.int .u64 (lo (lo x - M 1)), .int .u64 (hi (lo x - M 1))]) ∧ Below w.heap.size w w' := by
  have hd : decide (lo x < M 1) = false := by simp; omega
  have hM := M_pos 1
  go_enter Tryd.func15, Tryd.ntmps15
  go_wp2
  refine wp_region_flow0 (by kernel_rfl) (by kernel_rfl) ?_
  intro ι _ φ hφ
  have c0 := hφ.cell (p := ⟨w.heap.size, 0, none⟩) (v := .int .u64 (lo x)) (by simp)
  have c1 := hφ.cell (p := ⟨w.heap.size, 1, none⟩) (v := .int .u64 0) (by simp)
  repeat (go_big_quiet_step ((first
    | (go_at_call 31; exact flow_call hφ (p_any 1 _))
    | (go_at_call 30; exact flow_call hφ (less_lo x (M 1) _)))))
  refine wpQuiet_nil ?_
  intro w2 hw2
  clear c0 c1 hφ
  have b2 : Below w.heap.size w w2 := (((Below.refl _ _).alloc (Nat.le_refl _) _).alloc (by simp) _).trans (hw2.mono (by simp; omega))
  have k0 : w2.heap[w.heap.size]? = some (.cells #[.int .u64 (lo x), .int .u64 0] 34 (0, 0)) := keeps hw2 (alloc_keeps (alloc_at rfl))
  have k1 : w2.heap[w.heap.size + 1]? = some (.cells #[.int .u64 0, .int .u64 0] 34 (0, 0)) := keeps hw2 (alloc_at (by simp))
  clear hw2
  obtain ⟨c0, d0, f0, g0⟩ := blk2 k0
  obtain ⟨c1, d1, f1, g1⟩ := blk2 k1
  go_wp2
  refine wp_region_flow1 4 (by kernel_rfl) (by kernel_rfl) (by kernel_rfl) ?_
  apply Exists.intro
  refine ⟨fun ι _ φ hφ => ?_, fun w3 hw3 => ?_⟩
  · have e0 := hφ.cell c0
    have e1 := hφ.cell d0
    simp only [List.take_succ_cons, List.take_zero]
    repeat (go_big_quiet_step ((first
      | (go_at_call 31; exact flow_call hφ (p_any 1 _))
      | (go_at_call 32; exact flow_call hφ (take_lo x (M 1) (by omega) hc _)))))
    exact wpQuiet_nil rfl
  · have m1 := keeps hw3 k1
    have b3 := b2.trans (hw3.mono (b2.size))
    clear hw3 c0 d0 f0 g0 c1 d1 f1 g1 k0 k1 b2
    obtain ⟨c1, d1, f1, g1⟩ := blk2 m1
    simp only [List.drop_succ_cons, List.drop_zero]
    go_wp2
    obtain ⟨c2, d2, _, _⟩ := blk2 (store2 (u := .int .u64 (lo (lo x - M 1))) (v := .int .u64 (hi (lo x - M 1))) m1)
    exact bodyPost_ret (v := .agg #[.int .u64 (lo (lo x - M 1)), .int .u64 (hi (lo x - M 1))]) (by simp [results, Tryd.results15, go_sem, c2, d2]) rfl ⟨rfl, below_store2 b3 (by omega)⟩

set_option maxHeartbeats 1000000 in
theorem of_small1 (x z : Int) (hc : lo x < M 1) (w : World) :
    Calls Tryd.prog 15 #[.int .i64 1, .agg #[.int .u64 (lo x), .int .u64 z]] w fun e w' => e = .returned (.agg #[.int .u64 (lo x), .int .u64 0]) ∧ Below w.heap.size w w' := by
  have hd : decide (lo x < M 1) = true := by simpa using hc
  go_enter Tryd.func15, Tryd.ntmps15
  go_wp2
  refine wp_region_flow0 (by kernel_rfl) (by kernel_rfl) ?_
  intro ι _ φ hφ
  have c0 := hφ.cell (p := ⟨w.heap.size, 0, none⟩) (v := .int .u64 (lo x)) (by simp)
  have c1 := hφ.cell (p := ⟨w.heap.size, 1, none⟩) (v := .int .u64 0) (by simp)
  repeat (go_big_quiet_step ((first
    | (go_at_call 31; exact flow_call hφ (p_any 1 _))
    | (go_at_call 30; exact flow_call hφ (less_lo x (M 1) _)))))
  refine wpQuiet_nil ?_
  intro w2 hw2
  clear c0 c1 hφ
  have b2 : Below w.heap.size w w2 := (((Below.refl _ _).alloc (Nat.le_refl _) _).alloc (by simp) _).trans (hw2.mono (by simp; omega))
  have k0 : w2.heap[w.heap.size]? = some (.cells #[.int .u64 (lo x), .int .u64 0] 34 (0, 0)) := keeps hw2 (alloc_keeps (alloc_at rfl))
  have k1 : w2.heap[w.heap.size + 1]? = some (.cells #[.int .u64 0, .int .u64 0] 34 (0, 0)) := keeps hw2 (alloc_at (by simp))
  clear hw2
  obtain ⟨c0, d0, f0, g0⟩ := blk2 k0
  obtain ⟨c1, d1, f1, g1⟩ := blk2 k1
  go_wp2
  obtain ⟨c2, d2, _, _⟩ := blk2 (store2 (u := .int .u64 (lo x)) (v := .int .u64 0) k1)
  exact bodyPost_ret (v := .agg #[.int .u64 (lo x), .int .u64 0]) (by simp [results, Tryd.results15, go_sem, c2, d2]) rfl ⟨rfl, below_store2 b2 (by omega)⟩

/-- Of: a number as an element. -/
theorem of_any (f x : Int) (h0 : 0 ≤ x) (h1 : x < 340282366920938463463374607431768211456) (w : World) :
    Calls Tryd.prog 15 #[.int .i64 f, .agg #[.int .u64 (lo x), .int .u64 (hi x)]] w fun e w' => e = .returned (.agg #[.int .u64 (lo (redu f x)), .int .u64 (hi (redu f x))]) ∧ Below w.heap.size w w' := by
  by_cases hf : f = 1
  · subst hf
    by_cases hc : M 1 ≤ lo x
    · rw [redu_big1 hc]; exact of_big1 x _ hc w
    · have h := of_small1 x (hi x) (by omega) w
      rw [redu_small1 (by omega), lo_lo, hi_lo]; exact h
  · by_cases hc : M f ≤ x
    · rw [redu_big hf hc h1]; exact of_big f x hf h1 hc w
    · rw [redu_small hf h0 (by omega)]; exact of_small f x hf (by omega) w
end Go.Proofs.YtnlnbikiocdpdaaDoor
