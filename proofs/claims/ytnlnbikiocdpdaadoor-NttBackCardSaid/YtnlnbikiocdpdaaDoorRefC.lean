/-
  Contracts of the reference's elements: sums, differences.
-/
import Derived.Test.YtnlnbikiocdpdaaDoorRefB
import Derived.Lib.Hide
namespace Go.Proofs.YtnlnbikiocdpdaaDoor
open Go.RowKit F Flow


set_option maxHeartbeats 1000000 in
theorem add_big (f X Y : Int) (hX : 0 ≤ X) (hX' : X < 340282366920938463463374607431768211456) (hY : 0 ≤ Y) (hY' : Y < 340282366920938463463374607431768211456) (hc : M f ≤ redu f X + redu f Y) (w : World) :
    Calls Tryd.prog 25 #[.int .i64 f, .agg #[.int .u64 (lo X), .int .u64 (hi X)], .agg #[.int .u64 (lo Y), .int .u64 (hi Y)]] w fun e w' => e = .returned (.agg #[.int .u64 (lo (redu f X - (M f - redu f Y))), .int .u64 (hi (redu f X - (M f - redu f Y)))]) ∧ Below w.heap.size w w' := by
  have hx0 := redu_nonneg f X
  have hx1 := redu_lt f X
  have hy0 := redu_nonneg f Y
  have hy1 := redu_lt f Y
  have hM' : M f < 340282366920938463463374607431768211456 := by have := M_lt f; omega
  have hM := M_pos f
  have hd : decide (redu f X < M f - redu f Y) = false := by simp; omega
  go_enter Tryd.func25, Tryd.ntmps25
  go_wp2
  refine name_wp (fun w1 => Below w.heap.size w w1 ∧ w1.heap[w.heap.size]? = some (.cells #[.int .u64 (lo X), .int .u64 (hi X)] 34 (0, 0)) ∧ w1.heap[w.heap.size + 1]? = some (.cells #[.int .u64 (lo Y), .int .u64 (hi Y)] 34 (0, 0)) ∧
      w1.heap[w.heap.size + 1 + 1]? = some (.cells #[.int .u64 0, .int .u64 0] 34 (0, 0)))
    ⟨(((Below.refl _ _).alloc (Nat.le_refl _) _).alloc (by simp) _).alloc (by simp; omega) _, alloc_keeps (alloc_keeps (alloc_at rfl)), alloc_keeps (alloc_at (by simp)), alloc_at (by simp)⟩ ?_
  rintro w1 ⟨b1, k0, k1, k2⟩
  refine wp_region_flow1 6 (by kernel_rfl) (by kernel_rfl) (by kernel_rfl) ?_
  apply Exists.intro
  refine ⟨fun ι _ φ hφ => ?_, fun w2 hw2 => ?_⟩
  · obtain ⟨e0, e1⟩ := hφ.two k0
    obtain ⟨e2, e3⟩ := hφ.two k1
    simp only [List.take_succ_cons, List.take_zero]
    repeat (go_big_quiet_step ((first
      | (go_at_call 15; exact flow_call hφ (of_any f _ (by omega) (by omega) _)))))
    exact wpQuiet_nil rfl
  replace b1 := below_next b1 b1.size hw2
  replace k0 := keeps hw2 k0
  replace k1 := keeps hw2 k1
  replace k2 := keeps hw2 k2
  clear hw2
  obtain ⟨c0, d0, f0, g0⟩ := blk2 k0
  obtain ⟨c1, d1, f1, g1⟩ := blk2 k1
  have ne : w.heap.size + 1 ≠ w.heap.size := by omega
  have ne2 : w.heap.size ≠ w.heap.size + 1 := by omega
  simp only [List.drop_succ_cons, List.drop_zero]
  go_wp2
  refine name_wp (fun w1 => Below w.heap.size w w1 ∧ w1.heap[w.heap.size]? = some (.cells #[.int .u64 (lo (redu f X)), .int .u64 (hi (redu f X))] 34 (0, 0)) ∧ w1.heap[w.heap.size + 1]? = some (.cells #[.int .u64 (lo (redu f Y)), .int .u64 (hi (redu f Y))] 34 (0, 0)) ∧
      w1.heap[w.heap.size + 1 + 1]? = some (.cells #[.int .u64 0, .int .u64 0] 34 (0, 0)))
    ⟨below_store2 (below_store2 b1 (by omega)) (by omega), store2_far (store2 k0) ne2, store2 (store2_far k1 ne), store2_far (store2_far k2 (by omega)) (by omega)⟩ ?_
  clear c0 d0 f0 g0 c1 d1 f1 g1 k0 k1 k2 b1
  rintro w3 ⟨b3, k0, k1, k2⟩
  refine wp_region_flow2 4 _ (.cells #[.int .u64 0, .int .u64 0] 34 (0, 0)) (by kernel_rfl) (by kernel_rfl) (by kernel_rfl) rfl rfl (fun _ _ => by simp [go_sem]) ?_
  apply Exists.intro
  refine ⟨fun ι _ φ hφ => ?_, fun w4 b hw4 hb kb => ?_⟩
  · obtain ⟨e2, e3⟩ := hφ.two k1
    simp only [List.take_succ_cons, List.take_zero]
    repeat (go_big_quiet_step ((first
      | (go_at_call 31; exact flow_call hφ (p_any f _))
      | (go_at_call 32; exact flow_call hφ (take_any (M f) (redu f Y) hy0 (by omega) hM' _)))))
    exact wpQuiet_nil rfl
  have hsz := b3.size
  have l0 := lt_of_get k2
  replace b3 := below_next b3 b3.size hw4
  replace k0 := keeps hw4 k0
  replace k1 := keeps hw4 k1
  replace k2 := keeps hw4 k2
  clear hw4
  have n0 : w.heap.size ≠ b := by omega
  have n2 : w.heap.size + 1 + 1 ≠ b := by omega
  have n1 : w.heap.size + 1 ≠ b := by omega
  obtain ⟨c0, d0, f0, g0⟩ := blk2 kb
  obtain ⟨c1, d1, f1, g1⟩ := blk2 k0
  simp only [List.drop_succ_cons, List.drop_zero, Act.put]
  go_wp2_with fail
  clear c0 d0 f0 g0 c1 d1 f1 g1
  refine name_calls (fun w1 => Below w.heap.size w w1 ∧ w1.heap[w.heap.size]? = some (.cells #[.int .u64 (lo (redu f X)), .int .u64 (hi (redu f X))] 34 (0, 0)) ∧ w1.heap[w.heap.size + 1]? = some (.cells #[.int .u64 (lo (redu f Y)), .int .u64 (hi (redu f Y))] 34 (0, 0)) ∧
      w1.heap[w.heap.size + 1 + 1]? = some (.cells #[.int .u64 0, .int .u64 0] 34 (0, 0)) ∧ w1.heap[b]? = some (.cells #[.int .u64 (lo (M f - redu f Y)), .int .u64 (hi (M f - redu f Y))] 34 (0, 0)))
    ⟨below_store2 b3 (by omega), store2_far k0 n0, store2_far k1 n1, store2_far k2 n2, store2 kb⟩ ?_
  clear k0 k1 k2 kb b3
  rintro w5 ⟨b3, k0, k1, k2, kb⟩
  refine call_then (less_any _ _ _) ?_
  intro w6 hw6
  replace b3 := below_next b3 b3.size hw6
  replace k0 := keeps hw6 k0
  replace k1 := keeps hw6 k1
  replace k2 := keeps hw6 k2
  replace kb := keeps hw6 kb
  clear hw6
  obtain ⟨c0, d0, f0, g0⟩ := blk2 k0
  obtain ⟨c1, d1, f1, g1⟩ := blk2 k1
  obtain ⟨c2, d2, f2, g2⟩ := blk2 kb
  go_wp2_with fail
  clear c0 d0 f0 g0 c1 d1 f1 g1 c2 d2 f2 g2
  refine call_then (take_any (redu f X) (M f - redu f Y) (by omega) (by omega) (by omega) _) ?_
  intro w7 hw7
  replace b3 := below_next b3 b3.size hw7
  replace k2 := keeps hw7 k2
  clear hw7 k0 k1 kb
  obtain ⟨c0, d0, f0, g0⟩ := blk2 k2
  go_wp2
  obtain ⟨c2, d2, _, _⟩ := blk2 (store2 (u := .int .u64 (lo (redu f X - (M f - redu f Y)))) (v := .int .u64 (hi (redu f X - (M f - redu f Y)))) k2)
  exact bodyPost_ret (v := .agg #[.int .u64 (lo (redu f X - (M f - redu f Y))), .int .u64 (hi (redu f X - (M f - redu f Y)))]) (by simp [results, Tryd.results25, go_sem, c2, d2]) rfl ⟨rfl, below_store2 b3 (by omega)⟩

set_option maxHeartbeats 1000000 in
theorem add_small (f X Y : Int) (hX : 0 ≤ X) (hX' : X < 340282366920938463463374607431768211456) (hY : 0 ≤ Y) (hY' : Y < 340282366920938463463374607431768211456) (hc : redu f X + redu f Y < M f) (w : World) :
    Calls Tryd.prog 25 #[.int .i64 f, .agg #[.int .u64 (lo X), .int .u64 (hi X)], .agg #[.int .u64 (lo Y), .int .u64 (hi Y)]] w fun e w' => e = .returned (.agg #[.int .u64 (lo (redu f X + redu f Y)), .int .u64 (hi (redu f X + redu f Y))]) ∧ Below w.heap.size w w' := by
  have hx0 := redu_nonneg f X
  have hx1 := redu_lt f X
  have hy0 := redu_nonneg f Y
  have hy1 := redu_lt f Y
  have hM' : M f < 340282366920938463463374607431768211456 := by have := M_lt f; omega
  have hM := M_pos f
  have hd : decide (redu f X < M f - redu f Y) = true := by simp; omega
  go_enter Tryd.func25, Tryd.ntmps25
  go_wp2
  refine name_wp (fun w1 => Below w.heap.size w w1 ∧ w1.heap[w.heap.size]? = some (.cells #[.int .u64 (lo X), .int .u64 (hi X)] 34 (0, 0)) ∧ w1.heap[w.heap.size + 1]? = some (.cells #[.int .u64 (lo Y), .int .u64 (hi Y)] 34 (0, 0)) ∧
      w1.heap[w.heap.size + 1 + 1]? = some (.cells #[.int .u64 0, .int .u64 0] 34 (0, 0)))
    ⟨(((Below.refl _ _).alloc (Nat.le_refl _) _).alloc (by simp) _).alloc (by simp; omega) _, alloc_keeps (alloc_keeps (alloc_at rfl)), alloc_keeps (alloc_at (by simp)), alloc_at (by simp)⟩ ?_
  rintro w1 ⟨b1, k0, k1, k2⟩
  refine wp_region_flow1 6 (by kernel_rfl) (by kernel_rfl) (by kernel_rfl) ?_
  apply Exists.intro
  refine ⟨fun ι _ φ hφ => ?_, fun w2 hw2 => ?_⟩
  · obtain ⟨e0, e1⟩ := hφ.two k0
    obtain ⟨e2, e3⟩ := hφ.two k1
    simp only [List.take_succ_cons, List.take_zero]
    repeat (go_big_quiet_step ((first
      | (go_at_call 15; exact flow_call hφ (of_any f _ (by omega) (by omega) _)))))
    exact wpQuiet_nil rfl
  replace b1 := below_next b1 b1.size hw2
  replace k0 := keeps hw2 k0
  replace k1 := keeps hw2 k1
  replace k2 := keeps hw2 k2
  clear hw2
  obtain ⟨c0, d0, f0, g0⟩ := blk2 k0
  obtain ⟨c1, d1, f1, g1⟩ := blk2 k1
  have ne : w.heap.size + 1 ≠ w.heap.size := by omega
  have ne2 : w.heap.size ≠ w.heap.size + 1 := by omega
  simp only [List.drop_succ_cons, List.drop_zero]
  go_wp2
  refine name_wp (fun w1 => Below w.heap.size w w1 ∧ w1.heap[w.heap.size]? = some (.cells #[.int .u64 (lo (redu f X)), .int .u64 (hi (redu f X))] 34 (0, 0)) ∧ w1.heap[w.heap.size + 1]? = some (.cells #[.int .u64 (lo (redu f Y)), .int .u64 (hi (redu f Y))] 34 (0, 0)) ∧
      w1.heap[w.heap.size + 1 + 1]? = some (.cells #[.int .u64 0, .int .u64 0] 34 (0, 0)))
    ⟨below_store2 (below_store2 b1 (by omega)) (by omega), store2_far (store2 k0) ne2, store2 (store2_far k1 ne), store2_far (store2_far k2 (by omega)) (by omega)⟩ ?_
  clear c0 d0 f0 g0 c1 d1 f1 g1 k0 k1 k2 b1
  rintro w3 ⟨b3, k0, k1, k2⟩
  refine wp_region_flow2 4 _ (.cells #[.int .u64 0, .int .u64 0] 34 (0, 0)) (by kernel_rfl) (by kernel_rfl) (by kernel_rfl) rfl rfl (fun _ _ => by simp [go_sem]) ?_
  apply Exists.intro
  refine ⟨fun ι _ φ hφ => ?_, fun w4 b hw4 hb kb => ?_⟩
  · obtain ⟨e2, e3⟩ := hφ.two k1
    simp only [List.take_succ_cons, List.take_zero]
    repeat (go_big_quiet_step ((first
      | (go_at_call 31; exact flow_call hφ (p_any f _))
      | (go_at_call 32; exact flow_call hφ (take_any (M f) (redu f Y) hy0 (by omega) hM' _)))))
    exact wpQuiet_nil rfl
  have hsz := b3.size
  have l0 := lt_of_get k2
  replace b3 := below_next b3 b3.size hw4
  replace k0 := keeps hw4 k0
  replace k1 := keeps hw4 k1
  replace k2 := keeps hw4 k2
  clear hw4
  have n0 : w.heap.size ≠ b := by omega
  have n2 : w.heap.size + 1 + 1 ≠ b := by omega
  have n1 : w.heap.size + 1 ≠ b := by omega
  obtain ⟨c0, d0, f0, g0⟩ := blk2 kb
  obtain ⟨c1, d1, f1, g1⟩ := blk2 k0
  simp only [List.drop_succ_cons, List.drop_zero, Act.put]
  go_wp2_with fail
  clear c0 d0 f0 g0 c1 d1 f1 g1
  refine name_calls (fun w1 => Below w.heap.size w w1 ∧ w1.heap[w.heap.size]? = some (.cells #[.int .u64 (lo (redu f X)), .int .u64 (hi (redu f X))] 34 (0, 0)) ∧ w1.heap[w.heap.size + 1]? = some (.cells #[.int .u64 (lo (redu f Y)), .int .u64 (hi (redu f Y))] 34 (0, 0)) ∧
      w1.heap[w.heap.size + 1 + 1]? = some (.cells #[.int .u64 0, .int .u64 0] 34 (0, 0)) ∧ w1.heap[b]? = some (.cells #[.int .u64 (lo (M f - redu f Y)), .int .u64 (hi (M f - redu f Y))] 34 (0, 0)))
    ⟨below_store2 b3 (by omega), store2_far k0 n0, store2_far k1 n1, store2_far k2 n2, store2 kb⟩ ?_
  clear k0 k1 k2 kb b3
  rintro w5 ⟨b3, k0, k1, k2, kb⟩
  refine call_then (less_any _ _ _) ?_
  intro w6 hw6
  replace b3 := below_next b3 b3.size hw6
  replace k0 := keeps hw6 k0
  replace k1 := keeps hw6 k1
  replace k2 := keeps hw6 k2
  replace kb := keeps hw6 kb
  clear hw6
  obtain ⟨c0, d0, f0, g0⟩ := blk2 k0
  obtain ⟨c1, d1, f1, g1⟩ := blk2 k1
  obtain ⟨c2, d2, f2, g2⟩ := blk2 kb
  go_wp2_with fail
  clear c0 d0 f0 g0 c1 d1 f1 g1 c2 d2 f2 g2
  refine call_then (plus_any (redu f X) (redu f Y) (by omega) (by omega) (by omega) _) ?_
  intro w7 hw7
  replace b3 := below_next b3 b3.size hw7
  replace k2 := keeps hw7 k2
  clear hw7 k0 k1 kb
  obtain ⟨c0, d0, f0, g0⟩ := blk2 k2
  go_wp2
  obtain ⟨c2, d2, _, _⟩ := blk2 (store2 (u := .int .u64 (lo (redu f X + redu f Y))) (v := .int .u64 (hi (redu f X + redu f Y))) k2)
  exact bodyPost_ret (v := .agg #[.int .u64 (lo (redu f X + redu f Y)), .int .u64 (hi (redu f X + redu f Y))]) (by simp [results, Tryd.results25, go_sem, c2, d2]) rfl ⟨rfl, below_store2 b3 (by omega)⟩

/-- Add: the sum of two numbers, as elements. -/
theorem add_any (f X Y : Int) (hX : 0 ≤ X) (hX' : X < 340282366920938463463374607431768211456) (hY : 0 ≤ Y) (hY' : Y < 340282366920938463463374607431768211456) (w : World) :
    Calls Tryd.prog 25 #[.int .i64 f, .agg #[.int .u64 (lo X), .int .u64 (hi X)], .agg #[.int .u64 (lo Y), .int .u64 (hi Y)]] w fun e w' => e = .returned (.agg #[.int .u64 (lo (add f X Y)), .int .u64 (hi (add f X Y))]) ∧ Below w.heap.size w w' := by
  by_cases hc : M f ≤ redu f X + redu f Y
  · rw [add_big_eq hc]; exact add_big f X Y hX hX' hY hY' hc w
  · rw [add_small_eq (by omega)]; exact add_small f X Y hX hX' hY hY' (by omega) w
end Go.Proofs.YtnlnbikiocdpdaaDoor
