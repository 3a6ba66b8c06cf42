import Derived.Test.YtebgfelbffgnbaaGreatDoorBA
import Derived.Shelf.Spec.BitsCarry
import Derived.Test.YtebgfelbffgnbaaGreatDoorShelf
import Derived.Test.YtebgfelbffgnbaaGreatDoorRows
import Derived.WalkKit
import Derived.ProofKit
import Derived.OpenShut
import Derived.Test.YtebgfelbffgnbaaGreatDoorBB
import Derived.Laws.BitsAllLaws
/-
  Contracts of package wide: differences and sums.
-/
namespace Go.Proofs.YtebgfelbffgnbaaGreatDoor
open Go.RowKit F Flow
set_option linter.unusedVariables false

def borrow (x y b : Int) : Int := if x < y + b then 1 else 0
def diff (x y b : Int) : Int := (x - y - b) % 18446744073709551616
def carried (x y c : Int) : Int := (x + y + c) / 18446744073709551616
def summed (x y c : Int) : Int := (x + y + c) % 18446744073709551616

theorem sub64_run (x y b : Int) (hx : 0 ≤ x) (hx' : x < 18446744073709551616) (hy : 0 ≤ y) (hy' : y < 18446744073709551616) (hb : 0 ≤ b) (hb' : b ≤ 1) (w : World) :
    (callFunc 155 #[.int .u64 x, .int .u64 y, .int .u64 b]).run Tryz.prog w = .ok (.value (.tuple #[.int .u64 (diff x y b), .int .u64 (borrow x y b)])) w := by
  obtain ⟨X, rfl⟩ := Int.eq_ofNat_of_zero_le hx
  obtain ⟨Y, rfl⟩ := Int.eq_ofNat_of_zero_le hy
  obtain ⟨B, rfl⟩ := Int.eq_ofNat_of_zero_le hb
  rw [run_callFunc_extern Tryz.func155 (by kernel_rfl) (by kernel_rfl) (by kernel_rfl) (e := sub64Entry) (by kernel_rfl), run_sub64 X Y B (by omega)]
  have e1 : (((X + 18446744073709551616 - Y - B) % 18446744073709551616 : Nat) : Int) = diff X Y B := by unfold diff; omega
  have e2 : ((if X < Y + B then 1 else 0 : Nat) : Int) = borrow X Y B := by unfold borrow; split <;> split <;> omega
  rw [e1, e2]
  rfl
theorem add64_run (x y c : Int) (hx : 0 ≤ x) (hx' : x < 18446744073709551616) (hy : 0 ≤ y) (hy' : y < 18446744073709551616) (hc : 0 ≤ c) (hc' : c ≤ 1) (w : World) :
    (callFunc 162 #[.int .u64 x, .int .u64 y, .int .u64 c]).run Tryz.prog w = .ok (.value (.tuple #[.int .u64 (summed x y c), .int .u64 (carried x y c)])) w := by
  rw [run_callFunc_extern Tryz.func162 (by kernel_rfl) (by kernel_rfl) (by kernel_rfl) (e := add64Entry) (by kernel_rfl), run_add64 x y c hx hy hc hc']
  rfl
theorem diff_bound (x y b : Int) : 0 ≤ diff x y b ∧ diff x y b < 18446744073709551616 := by unfold diff; omega
theorem borrow_bound (x y b : Int) : 0 ≤ borrow x y b ∧ borrow x y b ≤ 1 := by unfold borrow; split <;> omega
theorem summed_bound (x y c : Int) : 0 ≤ summed x y c ∧ summed x y c < 18446744073709551616 := by unfold summed; omega
theorem carried_bound {x y c : Int} (hx : 0 ≤ x) (hx' : x < 18446744073709551616) (hy : 0 ≤ y) (hy' : y < 18446744073709551616) (hc : 0 ≤ c) (hc' : c ≤ 1) : 0 ≤ carried x y c ∧ carried x y c ≤ 1 := by unfold carried; omega

set_option maxHeartbeats 1000000 in
theorem wless_raw (a0 a1 b0 b1 : Int) (hx : 0 ≤ a0) (hx' : a0 < 18446744073709551616) (hy : 0 ≤ a1) (hy' : a1 < 18446744073709551616) (h0 : 0 ≤ b0) (h0' : b0 < 18446744073709551616) (h1 : 0 ≤ b1) (h1' : b1 < 18446744073709551616) (w : World) :
    Calls Tryz.prog 137 #[.agg #[.int .u64 a0, .int .u64 a1], .agg #[.int .u64 b0, .int .u64 b1]] w fun e w' => e = .returned (.agg #[.int .u64 (diff a0 b0 0), .int .u64 (diff a1 b1 (borrow a0 b0 0))]) ∧ Below w.heap.size w w' := by
  have bb := borrow_bound a0 b0 0
  have r1 : ∀ w, _ := sub64_run a0 b0 0 hx hx' h0 h0' (by omega) (by omega)
  have r2 : ∀ w, _ := sub64_run a1 b1 (borrow a0 b0 0) hy hy' h1 h1' bb.1 bb.2
  go_enter Tryz.func137, Tryz.ntmps137
  go_wp2
  exact bodyPost_ret (v := .agg #[.int .u64 (diff a0 b0 0), .int .u64 (diff a1 b1 (borrow a0 b0 0))]) (by simp [results, Tryz.results137, go_sem]) rfl
    ⟨rfl, (((Below.refl _ _).alloc (Nat.le_refl _) _).alloc (by simp) _).alloc (by simp; omega) _⟩

theorem wless_eq {x y : Int} (h0 : 0 ≤ y) (h : y ≤ x) (hx : x < 340282366920938463463374607431768211456) :
    diff (lo x) (lo y) 0 = lo (x - y) ∧ diff (hi x) (hi y) (borrow (lo x) (lo y) 0) = hi (x - y) := by
  unfold diff borrow lo hi
  constructor
  · omega
  · split <;> omega
theorem wless_any (x y : Int) (h0 : 0 ≤ y) (h : y ≤ x) (hx : x < 340282366920938463463374607431768211456) (w : World) :
    Calls Tryz.prog 137 #[.agg #[.int .u64 (lo x), .int .u64 (hi x)], .agg #[.int .u64 (lo y), .int .u64 (hi y)]] w fun e w' => e = .returned (.agg #[.int .u64 (lo (x - y)), .int .u64 (hi (x - y))]) ∧ Below w.heap.size w w' := by
  have e := wless_eq h0 h hx
  rw [← e.1, ← e.2]
  exact wless_raw _ _ _ _ (lo_nonneg _) (lo_lt _) (hi_nonneg (by omega)) (hi_lt hx) (lo_nonneg _) (lo_lt _) (hi_nonneg h0) (hi_lt (by omega)) w

theorem M2 : M 2 = 340282366920938462946865773367900766209 := rfl
theorem win_raw (a0 a1 : Int) (w : World) :
    Calls Tryz.prog 136 #[.agg #[.int .u64 a0, .int .u64 a1]] w fun e w' => e = .returned (.bool (decide (a1 < 18446744073709551588) || (a1 == 18446744073709551588 && decide (a0 < 1)))) ∧ Below w.heap.size w w' := by
  by_cases h : a1 < 18446744073709551588
  · go_enter Tryz.func136, Tryz.ntmps136
    go_wp2
    go_ret
    exact ⟨by simp [h], (Below.refl _ _).alloc (Nat.le_refl _) _⟩
  · by_cases h2 : a1 = 18446744073709551588
    · subst h2
      go_enter Tryz.func136, Tryz.ntmps136
      go_wp2
      go_ret
      exact ⟨by simp, (Below.refl _ _).alloc (Nat.le_refl _) _⟩
    · have h3 : (a1 == 18446744073709551588) = false := by simpa using h2
      go_enter Tryz.func136, Tryz.ntmps136
      go_wp2
      go_ret
      exact ⟨by simp; omega, (Below.refl _ _).alloc (Nat.le_refl _) _⟩
theorem win_eq (x : Int) : (decide (hi x < 18446744073709551588) || (hi x == 18446744073709551588 && decide (lo x < 1))) = decide (x < M 2) := by
  rw [M2, Bool.eq_iff_iff]
  simp only [Bool.or_eq_true, Bool.and_eq_true, decide_eq_true_eq, beq_iff_eq]
  unfold lo hi
  omega
theorem win_any (x : Int) (w : World) :
    Calls Tryz.prog 136 #[.agg #[.int .u64 (lo x), .int .u64 (hi x)]] w fun e w' => e = .returned (.bool (decide (x < M 2))) ∧ Below w.heap.size w w' := by
  have h := win_raw (lo x) (hi x) w
  rwa [win_eq] at h

theorem wp_any (w : World) :
    Calls Tryz.prog 138 #[] w fun e w' => e = .returned (.agg #[.int .u64 (lo (M 2)), .int .u64 (hi (M 2))]) ∧ Below w.heap.size w w' := by
  rw [show lo (M 2) = 1 from rfl, show hi (M 2) = 18446744073709551588 from rfl]
  go_enter Tryz.func138, Tryz.ntmps138
  go_wp2
  exact bodyPost_ret (v := .agg #[.int .u64 1, .int .u64 18446744073709551588]) (by simp [results, Tryz.results138, go_sem]) rfl ⟨rfl, ((Below.refl _ _).alloc (Nat.le_refl _) _)⟩


set_option maxHeartbeats 1000000 in
theorem wof_small (x : Int) (h : x < M 2) (w : World) :
    Calls Tryz.prog 106 #[.agg #[.int .u64 (lo x), .int .u64 (hi x)]] w fun e w' => e = .returned (.agg #[.int .u64 (lo x), .int .u64 (hi x)]) ∧ Below w.heap.size w w' := by
  have hd : decide (x < M 2) = true := by simpa using h
  go_enter Tryz.func106, Tryz.ntmps106
  go_wp2_with fail
  refine name_calls (fun w1 => Below w.heap.size w w1 ∧ w1.heap[w.heap.size]? = some (.cells #[.int .u64 (lo x), .int .u64 (hi x)] 28 (0, 0)) ∧ w1.heap[w.heap.size + 1]? = some (.cells #[.int .u64 0, .int .u64 0] 28 (0, 0)))
    ⟨(((Below.refl _ _).alloc (Nat.le_refl _) _).alloc (by simp) _), alloc_keeps (alloc_at rfl), alloc_at (by simp)⟩ ?_
  rintro w1 ⟨b1, k0, k1⟩
  refine call_then (win_any x _) ?_
  intro w2 hw2
  replace b1 := below_next b1 b1.size hw2
  replace k0 := keeps hw2 k0
  replace k1 := keeps hw2 k1
  clear hw2
  obtain ⟨c0, d0, f0, g0⟩ := blk2 k0
  obtain ⟨c1, d1, f1, g1⟩ := blk2 k1
  go_wp2
  obtain ⟨c2, d2, _, _⟩ := blk2 (store2 (u := .int .u64 (lo (x))) (v := .int .u64 (hi (x))) k1)
  exact bodyPost_ret (v := .agg #[.int .u64 (lo (x)), .int .u64 (hi (x))]) (by simp [results, Tryz.results106, go_sem, c2, d2]) rfl ⟨rfl, below_store2 b1 (by omega)⟩
set_option maxHeartbeats 1000000 in
theorem wof_big (x : Int) (h : M 2 ≤ x) (hx : x < 340282366920938463463374607431768211456) (w : World) :
    Calls Tryz.prog 106 #[.agg #[.int .u64 (lo x), .int .u64 (hi x)]] w fun e w' => e = .returned (.agg #[.int .u64 (lo (x - M 2)), .int .u64 (hi (x - M 2))]) ∧ Below w.heap.size w w' := by
  have hd : decide (x < M 2) = false := by simp; omega
  have hM := M_pos 2
  go_enter Tryz.func106, Tryz.ntmps106
  go_wp2_with fail
  refine name_calls (fun w1 => Below w.heap.size w w1 ∧ w1.heap[w.heap.size]? = some (.cells #[.int .u64 (lo x), .int .u64 (hi x)] 28 (0, 0)) ∧ w1.heap[w.heap.size + 1]? = some (.cells #[.int .u64 0, .int .u64 0] 28 (0, 0)))
    ⟨(((Below.refl _ _).alloc (Nat.le_refl _) _).alloc (by simp) _), alloc_keeps (alloc_at rfl), alloc_at (by simp)⟩ ?_
  rintro w1 ⟨b1, k0, k1⟩
  refine call_then (win_any x _) ?_
  intro w2 hw2
  replace b1 := below_next b1 b1.size hw2
  replace k0 := keeps hw2 k0
  replace k1 := keeps hw2 k1
  clear hw2
  go_wp2
  refine wp_region_flow1 3 (by kernel_rfl) (by kernel_rfl) (by kernel_rfl) ?_
  apply Exists.intro
  refine ⟨fun ι _ φ hφ => ?_, fun wt hwt => ?_⟩
  · obtain ⟨e0, e1⟩ := hφ.two k0
    simp only [List.take_succ_cons, List.take_zero]
    repeat (go_big_quiet_step ((first
      | (go_at_call 138; exact flow_call hφ (wp_any _))
      | (go_at_call 137; exact flow_call hφ (wless_any x (M 2) (by omega) h hx _)))))
    exact wpQuiet_nil rfl
  replace b1 := below_next b1 b1.size hwt
  replace k1 := keeps hwt k1
  clear hwt k0
  obtain ⟨c1, d1, f1, g1⟩ := blk2 k1
  simp only [List.drop_succ_cons, List.drop_zero]
  go_wp2
  obtain ⟨c2, d2, _, _⟩ := blk2 (store2 (u := .int .u64 (lo (x - M 2))) (v := .int .u64 (hi (x - M 2))) k1)
  exact bodyPost_ret (v := .agg #[.int .u64 (lo (x - M 2)), .int .u64 (hi (x - M 2))]) (by simp [results, Tryz.results106, go_sem, c2, d2]) rfl ⟨rfl, below_store2 b1 (by omega)⟩
theorem wof_any (x : Int) (h0 : 0 ≤ x) (hx : x < 340282366920938463463374607431768211456) (w : World) :
    Calls Tryz.prog 106 #[.agg #[.int .u64 (lo x), .int .u64 (hi x)]] w fun e w' => e = .returned (.agg #[.int .u64 (lo (redu 2 x)), .int .u64 (hi (redu 2 x))]) ∧ Below w.heap.size w w' := by
  by_cases hc : M 2 ≤ x
  · rw [redu_big (by decide) hc hx]; exact wof_big x hc hx w
  · rw [redu_small (by decide) h0 (by omega)]; exact wof_small x (by omega) w

set_option maxHeartbeats 1000000 in
theorem wsub_less (X Y : Int) (hX : 0 ≤ X) (hX' : X < 340282366920938463463374607431768211456) (hY : 0 ≤ Y) (hY' : Y < 340282366920938463463374607431768211456) (hc : redu 2 X < redu 2 Y) (w : World) :
    Calls Tryz.prog 130 #[.agg #[.int .u64 (lo X), .int .u64 (hi X)], .agg #[.int .u64 (lo Y), .int .u64 (hi Y)]] w fun e w' => e = .returned (.agg #[.int .u64 (lo (M 2 - (redu 2 Y - redu 2 X))), .int .u64 (hi (M 2 - (redu 2 Y - redu 2 X)))]) ∧ Below w.heap.size w w' := by
  have hx0 := redu_nonneg 2 X
  have hx1 := redu_lt 2 X
  have hy0 := redu_nonneg 2 Y
  have hy1 := redu_lt 2 Y
  have hM' : M 2 < 340282366920938463463374607431768211456 := by rw [M2]; omega
  by_cases h1 : hi (redu 2 X) < hi (redu 2 Y)
  · go_enter Tryz.func130, Tryz.ntmps130
    go_wp2
    refine name_wp (fun w1 => Below w.heap.size w w1 ∧ w1.heap[w.heap.size]? = some (.cells #[.int .u64 (lo X), .int .u64 (hi X)] 28 (0, 0)) ∧ w1.heap[w.heap.size + 1]? = some (.cells #[.int .u64 (lo Y), .int .u64 (hi Y)] 28 (0, 0)) ∧
        w1.heap[w.heap.size + 1 + 1]? = some (.cells #[.int .u64 0, .int .u64 0] 28 (0, 0)))
      ⟨(((Below.refl _ _).alloc (Nat.le_refl _) _).alloc (by simp) _).alloc (by simp; omega) _, alloc_keeps (alloc_keeps (alloc_at rfl)), alloc_keeps (alloc_at (by simp)), alloc_at (by simp)⟩ ?_
    rintro w1 ⟨b1, k0, k1, k2⟩
    refine wp_region_flow1 4 (by kernel_rfl) (by kernel_rfl) (by kernel_rfl) ?_
    apply Exists.intro
    refine ⟨fun ι _ φ hφ => ?_, fun wt hwt => ?_⟩
    · obtain ⟨e0, e1⟩ := hφ.two k0
      obtain ⟨e2, e3⟩ := hφ.two k1
      simp only [List.take_succ_cons, List.take_zero]
      repeat (go_big_quiet_step ((first
        | (go_at_call 106; exact flow_call hφ (wof_any _ (by omega) (by omega) _)))))
      exact wpQuiet_nil rfl
    replace b1 := below_next b1 b1.size hwt
    replace k0 := keeps hwt k0
    replace k1 := keeps hwt k1
    replace k2 := keeps hwt k2
    clear hwt
    obtain ⟨c0, d0, f0, g0⟩ := blk2 k0
    obtain ⟨c1, d1, f1, g1⟩ := blk2 k1
    obtain ⟨c2, d2, f2, g2⟩ := blk2 k2
    have ne : w.heap.size + 1 ≠ w.heap.size := by omega
    have ne2 : w.heap.size ≠ w.heap.size + 1 := by omega
    simp only [List.drop_succ_cons, List.drop_zero]
    go_wp2
    refine name_wp (fun w1 => Below w.heap.size w w1 ∧ w1.heap[w.heap.size]? = some (.cells #[.int .u64 (lo (redu 2 X)), .int .u64 (hi (redu 2 X))] 28 (0, 0)) ∧ w1.heap[w.heap.size + 1]? = some (.cells #[.int .u64 (lo (redu 2 Y)), .int .u64 (hi (redu 2 Y))] 28 (0, 0)) ∧
        w1.heap[w.heap.size + 1 + 1]? = some (.cells #[.int .u64 0, .int .u64 0] 28 (0, 0)))
      ⟨below_store2 (below_store2 b1 (by omega)) (by omega), store2_far (store2 k0) ne2, store2 (store2_far k1 ne), store2_far (store2_far k2 (by omega)) (by omega)⟩
      ?_
    clear c0 d0 f0 g0 c1 d1 f1 g1 c2 d2 f2 g2 b1 k0 k1 k2
    rintro w3 ⟨b1, k0, k1, k2⟩
    refine wp_region_flow1 5 (by kernel_rfl) (by kernel_rfl) (by kernel_rfl) ?_
    apply Exists.intro
    refine ⟨fun ι _ φ hφ => ?_, fun wt hwt => ?_⟩
    · obtain ⟨e0, e1⟩ := hφ.two k0
      obtain ⟨e2, e3⟩ := hφ.two k1
      simp only [List.take_succ_cons, List.take_zero]
      repeat (go_big_quiet_step ((first
        | (go_at_call 138; exact flow_call hφ (wp_any _))
        | (go_at_call_of 137 (Value.agg #[.int .u64 (lo (redu 2 Y)), .int .u64 (hi (redu 2 Y))]); exact flow_call hφ (wless_any (redu 2 Y) (redu 2 X) (by omega) (by omega) (by omega) _))
        | (go_at_call 137; exact flow_call hφ (wless_any (M 2) (redu 2 Y - redu 2 X) (by omega) (by omega) (by omega) _)))))
      exact wpQuiet_nil rfl
    replace b1 := below_next b1 b1.size hwt
    replace k2 := keeps hwt k2
    clear hwt k0 k1
    obtain ⟨c2, d2, f2, g2⟩ := blk2 k2
    simp only [List.drop_succ_cons, List.drop_zero]
    go_wp2
    obtain ⟨c2, d2, _, _⟩ := blk2 (store2 (u := .int .u64 (lo (M 2 - (redu 2 Y - redu 2 X)))) (v := .int .u64 (hi (M 2 - (redu 2 Y - redu 2 X)))) k2)
    exact bodyPost_ret (v := .agg #[.int .u64 (lo (M 2 - (redu 2 Y - redu 2 X))), .int .u64 (hi (M 2 - (redu 2 Y - redu 2 X)))]) (by simp [results, Tryz.results130, go_sem, c2, d2]) rfl ⟨rfl, below_store2 b1 (by omega)⟩
  · have h2 : (hi (redu 2 X) == hi (redu 2 Y)) = true := by have := less_hi hc; simp; omega
    have h3 : lo (redu 2 X) < lo (redu 2 Y) := less_lo_of hc h1
    go_enter Tryz.func130, Tryz.ntmps130
    go_wp2
    refine name_wp (fun w1 => Below w.heap.size w w1 ∧ w1.heap[w.heap.size]? = some (.cells #[.int .u64 (lo X), .int .u64 (hi X)] 28 (0, 0)) ∧ w1.heap[w.heap.size + 1]? = some (.cells #[.int .u64 (lo Y), .int .u64 (hi Y)] 28 (0, 0)) ∧
        w1.heap[w.heap.size + 1 + 1]? = some (.cells #[.int .u64 0, .int .u64 0] 28 (0, 0)))
      ⟨(((Below.refl _ _).alloc (Nat.le_refl _) _).alloc (by simp) _).alloc (by simp; omega) _, alloc_keeps (alloc_keeps (alloc_at rfl)), alloc_keeps (alloc_at (by simp)), alloc_at (by simp)⟩ ?_
    rintro w1 ⟨b1, k0, k1, k2⟩
    refine wp_region_flow1 4 (by kernel_rfl) (by kernel_rfl) (by kernel_rfl) ?_
    apply Exists.intro
    refine ⟨fun ι _ φ hφ => ?_, fun wt hwt => ?_⟩
    · obtain ⟨e0, e1⟩ := hφ.two k0
      obtain ⟨e2, e3⟩ := hφ.two k1
      simp only [List.take_succ_cons, List.take_zero]
      repeat (go_big_quiet_step ((first
        | (go_at_call 106; exact flow_call hφ (wof_any _ (by omega) (by omega) _)))))
      exact wpQuiet_nil rfl
    replace b1 := below_next b1 b1.size hwt
    replace k0 := keeps hwt k0
    replace k1 := keeps hwt k1
    replace k2 := keeps hwt k2
    clear hwt
    obtain ⟨c0, d0, f0, g0⟩ := blk2 k0
    obtain ⟨c1, d1, f1, g1⟩ := blk2 k1
    obtain ⟨c2, d2, f2, g2⟩ := blk2 k2
    have ne : w.heap.size + 1 ≠ w.heap.size := by omega
    have ne2 : w.heap.size ≠ w.heap.size + 1 := by omega
    simp only [List.drop_succ_cons, List.drop_zero]
    go_wp2
    refine name_wp (fun w1 => Below w.heap.size w w1 ∧ w1.heap[w.heap.size]? = some (.cells #[.int .u64 (lo (redu 2 X)), .int .u64 (hi (redu 2 X))] 28 (0, 0)) ∧ w1.heap[w.heap.size + 1]? = some (.cells #[.int .u64 (lo (redu 2 Y)), .int .u64 (hi (redu 2 Y))] 28 (0, 0)) ∧
        w1.heap[w.heap.size + 1 + 1]? = some (.cells #[.int .u64 0, .int .u64 0] 28 (0, 0)))
      ⟨below_store2 (below_store2 b1 (by omega)) (by omega), store2_far (store2 k0) ne2, store2 (store2_far k1 ne), store2_far (store2_far k2 (by omega)) (by omega)⟩
      ?_
    clear c0 d0 f0 g0 c1 d1 f1 g1 c2 d2 f2 g2 b1 k0 k1 k2
    rintro w3 ⟨b1, k0, k1, k2⟩
    refine wp_region_flow1 5 (by kernel_rfl) (by kernel_rfl) (by kernel_rfl) ?_
    apply Exists.intro
    refine ⟨fun ι _ φ hφ => ?_, fun wt hwt => ?_⟩
    · obtain ⟨e0, e1⟩ := hφ.two k0
      obtain ⟨e2, e3⟩ := hφ.two k1
      simp only [List.take_succ_cons, List.take_zero]
      repeat (go_big_quiet_step ((first
        | (go_at_call 138; exact flow_call hφ (wp_any _))
        | (go_at_call_of 137 (Value.agg #[.int .u64 (lo (redu 2 Y)), .int .u64 (hi (redu 2 Y))]); exact flow_call hφ (wless_any (redu 2 Y) (redu 2 X) (by omega) (by omega) (by omega) _))
        | (go_at_call 137; exact flow_call hφ (wless_any (M 2) (redu 2 Y - redu 2 X) (by omega) (by omega) (by omega) _)))))
      exact wpQuiet_nil rfl
    replace b1 := below_next b1 b1.size hwt
    replace k2 := keeps hwt k2
    clear hwt k0 k1
    obtain ⟨c2, d2, f2, g2⟩ := blk2 k2
    simp only [List.drop_succ_cons, List.drop_zero]
    go_wp2
    obtain ⟨c2, d2, _, _⟩ := blk2 (store2 (u := .int .u64 (lo (M 2 - (redu 2 Y - redu 2 X)))) (v := .int .u64 (hi (M 2 - (redu 2 Y - redu 2 X)))) k2)
    exact bodyPost_ret (v := .agg #[.int .u64 (lo (M 2 - (redu 2 Y - redu 2 X))), .int .u64 (hi (M 2 - (redu 2 Y - redu 2 X)))]) (by simp [results, Tryz.results130, go_sem, c2, d2]) rfl ⟨rfl, below_store2 b1 (by omega)⟩
set_option maxHeartbeats 1000000 in
theorem wsub_more (X Y : Int) (hX : 0 ≤ X) (hX' : X < 340282366920938463463374607431768211456) (hY : 0 ≤ Y) (hY' : Y < 340282366920938463463374607431768211456) (hc : redu 2 Y ≤ redu 2 X) (w : World) :
    Calls Tryz.prog 130 #[.agg #[.int .u64 (lo X), .int .u64 (hi X)], .agg #[.int .u64 (lo Y), .int .u64 (hi Y)]] w fun e w' => e = .returned (.agg #[.int .u64 (lo (redu 2 X - redu 2 Y)), .int .u64 (hi (redu 2 X - redu 2 Y))]) ∧ Below w.heap.size w w' := by
  have hx0 := redu_nonneg 2 X
  have hx1 := redu_lt 2 X
  have hy0 := redu_nonneg 2 Y
  have hy1 := redu_lt 2 Y
  have hM' : M 2 < 340282366920938463463374607431768211456 := by rw [M2]; omega
  have h1 : ¬ hi (redu 2 X) < hi (redu 2 Y) := not_less_hi hc
  by_cases h2 : hi (redu 2 X) = hi (redu 2 Y)
  · have h3 : ¬ lo (redu 2 X) < lo (redu 2 Y) := not_less_lo hc h2
    have h4 : (hi (redu 2 X) == hi (redu 2 Y)) = true := by simpa using h2
    clear h2
    go_enter Tryz.func130, Tryz.ntmps130
    go_wp2
    refine name_wp (fun w1 => Below w.heap.size w w1 ∧ w1.heap[w.heap.size]? = some (.cells #[.int .u64 (lo X), .int .u64 (hi X)] 28 (0, 0)) ∧ w1.heap[w.heap.size + 1]? = some (.cells #[.int .u64 (lo Y), .int .u64 (hi Y)] 28 (0, 0)) ∧
        w1.heap[w.heap.size + 1 + 1]? = some (.cells #[.int .u64 0, .int .u64 0] 28 (0, 0)))
      ⟨(((Below.refl _ _).alloc (Nat.le_refl _) _).alloc (by simp) _).alloc (by simp; omega) _, alloc_keeps (alloc_keeps (alloc_at rfl)), alloc_keeps (alloc_at (by simp)), alloc_at (by simp)⟩ ?_
    rintro w1 ⟨b1, k0, k1, k2⟩
    refine wp_region_flow1 4 (by kernel_rfl) (by kernel_rfl) (by kernel_rfl) ?_
    apply Exists.intro
    refine ⟨fun ι _ φ hφ => ?_, fun wt hwt => ?_⟩
    · obtain ⟨e0, e1⟩ := hφ.two k0
      obtain ⟨e2, e3⟩ := hφ.two k1
      simp only [List.take_succ_cons, List.take_zero]
      repeat (go_big_quiet_step ((first
        | (go_at_call 106; exact flow_call hφ (wof_any _ (by omega) (by omega) _)))))
      exact wpQuiet_nil rfl
    replace b1 := below_next b1 b1.size hwt
    replace k0 := keeps hwt k0
    replace k1 := keeps hwt k1
    replace k2 := keeps hwt k2
    clear hwt
    obtain ⟨c0, d0, f0, g0⟩ := blk2 k0
    obtain ⟨c1, d1, f1, g1⟩ := blk2 k1
    obtain ⟨c2, d2, f2, g2⟩ := blk2 k2
    have ne : w.heap.size + 1 ≠ w.heap.size := by omega
    have ne2 : w.heap.size ≠ w.heap.size + 1 := by omega
    simp only [List.drop_succ_cons, List.drop_zero]
    go_wp2_with fail
    clear c0 d0 f0 g0 c1 d1 f1 g1 c2 d2 f2 g2
    refine name_calls (fun w1 => Below w.heap.size w w1 ∧ w1.heap[w.heap.size + 1 + 1]? = some (.cells #[.int .u64 0, .int .u64 0] 28 (0, 0)))
      ⟨below_store2 (below_store2 b1 (by omega)) (by omega), store2_far (store2_far k2 (by omega)) (by omega)⟩ ?_
    clear b1 k0 k1 k2
    rintro w3 ⟨b1, k2⟩
    refine call_then (wless_any (redu 2 X) (redu 2 Y) (by omega) (by omega) (by omega) _) ?_
    intro w4 hw4
    replace b1 := below_next b1 b1.size hw4
    replace k2 := keeps hw4 k2
    clear hw4
    obtain ⟨c2, d2, f2, g2⟩ := blk2 k2
    go_wp2
    obtain ⟨c2, d2, _, _⟩ := blk2 (store2 (u := .int .u64 (lo (redu 2 X - redu 2 Y))) (v := .int .u64 (hi (redu 2 X - redu 2 Y))) k2)
    exact bodyPost_ret (v := .agg #[.int .u64 (lo (redu 2 X - redu 2 Y)), .int .u64 (hi (redu 2 X - redu 2 Y))]) (by simp [results, Tryz.results130, go_sem, c2, d2]) rfl ⟨rfl, below_store2 b1 (by omega)⟩
  · have h4 : (hi (redu 2 X) == hi (redu 2 Y)) = false := by simpa using h2
    clear h2
    go_enter Tryz.func130, Tryz.ntmps130
    go_wp2
    refine name_wp (fun w1 => Below w.heap.size w w1 ∧ w1.heap[w.heap.size]? = some (.cells #[.int .u64 (lo X), .int .u64 (hi X)] 28 (0, 0)) ∧ w1.heap[w.heap.size + 1]? = some (.cells #[.int .u64 (lo Y), .int .u64 (hi Y)] 28 (0, 0)) ∧
        w1.heap[w.heap.size + 1 + 1]? = some (.cells #[.int .u64 0, .int .u64 0] 28 (0, 0)))
      ⟨(((Below.refl _ _).alloc (Nat.le_refl _) _).alloc (by simp) _).alloc (by simp; omega) _, alloc_keeps (alloc_keeps (alloc_at rfl)), alloc_keeps (alloc_at (by simp)), alloc_at (by simp)⟩ ?_
    rintro w1 ⟨b1, k0, k1, k2⟩
    refine wp_region_flow1 4 (by kernel_rfl) (by kernel_rfl) (by kernel_rfl) ?_
    apply Exists.intro
    refine ⟨fun ι _ φ hφ => ?_, fun wt hwt => ?_⟩
    · obtain ⟨e0, e1⟩ := hφ.two k0
      obtain ⟨e2, e3⟩ := hφ.two k1
      simp only [List.take_succ_cons, List.take_zero]
      repeat (go_big_quiet_step ((first
        | (go_at_call 106; exact flow_call hφ (wof_any _ (by omega) (by omega) _)))))
      exact wpQuiet_nil rfl
    replace b1 := below_next b1 b1.size hwt
    replace k0 := keeps hwt k0
    replace k1 := keeps hwt k1
    replace k2 := keeps hwt k2
    clear hwt
    obtain ⟨c0, d0, f0, g0⟩ := blk2 k0
    obtain ⟨c1, d1, f1, g1⟩ := blk2 k1
    obtain ⟨c2, d2, f2, g2⟩ := blk2 k2
    have ne : w.heap.size + 1 ≠ w.heap.size := by omega
    have ne2 : w.heap.size ≠ w.heap.size + 1 := by omega
    simp only [List.drop_succ_cons, List.drop_zero]
    go_wp2_with fail
    clear c0 d0 f0 g0 c1 d1 f1 g1 c2 d2 f2 g2
    refine name_calls (fun w1 => Below w.heap.size w w1 ∧ w1.heap[w.heap.size + 1 + 1]? = some (.cells #[.int .u64 0, .int .u64 0] 28 (0, 0)))
      ⟨below_store2 (below_store2 b1 (by omega)) (by omega), store2_far (store2_far k2 (by omega)) (by omega)⟩ ?_
    clear b1 k0 k1 k2
    rintro w3 ⟨b1, k2⟩
    refine call_then (wless_any (redu 2 X) (redu 2 Y) (by omega) (by omega) (by omega) _) ?_
    intro w4 hw4
    replace b1 := below_next b1 b1.size hw4
    replace k2 := keeps hw4 k2
    clear hw4
    obtain ⟨c2, d2, f2, g2⟩ := blk2 k2
    go_wp2
    obtain ⟨c2, d2, _, _⟩ := blk2 (store2 (u := .int .u64 (lo (redu 2 X - redu 2 Y))) (v := .int .u64 (hi (redu 2 X - redu 2 Y))) k2)
    exact bodyPost_ret (v := .agg #[.int .u64 (lo (redu 2 X - redu 2 Y)), .int .u64 (hi (redu 2 X - redu 2 Y))]) (by simp [results, Tryz.results130, go_sem, c2, d2]) rfl ⟨rfl, below_store2 b1 (by omega)⟩
theorem wsub_any (X Y : Int) (hX : 0 ≤ X) (hX' : X < 340282366920938463463374607431768211456) (hY : 0 ≤ Y) (hY' : Y < 340282366920938463463374607431768211456) (w : World) :
    Calls Tryz.prog 130 #[.agg #[.int .u64 (lo X), .int .u64 (hi X)], .agg #[.int .u64 (lo Y), .int .u64 (hi Y)]] w fun e w' => e = .returned (.agg #[.int .u64 (lo (sub 2 X Y)), .int .u64 (hi (sub 2 X Y))]) ∧ Below w.heap.size w w' := by
  by_cases hc : redu 2 X < redu 2 Y
  · rw [sub_less hc]; exact wsub_less X Y hX hX' hY hY' hc w
  · rw [sub_more (by omega)]; exact wsub_more X Y hX hX' hY hY' (by omega) w

set_option maxHeartbeats 1000000 in
theorem wneg_any (X : Int) (hX : 0 ≤ X) (hX' : X < 340282366920938463463374607431768211456) (w : World) :
    Calls Tryz.prog 142 #[.agg #[.int .u64 (lo X), .int .u64 (hi X)]] w fun e w' => e = .returned (.agg #[.int .u64 (lo (neg 2 X)), .int .u64 (hi (neg 2 X))]) ∧ Below w.heap.size w w' := by
  rw [← sub_zero_neg]
  go_enter Tryz.func142, Tryz.ntmps142
  go_wp2_with fail
  refine name_calls (fun w1 => Below w.heap.size w w1 ∧ w1.heap[w.heap.size]? = some (.cells #[.int .u64 (lo X), .int .u64 (hi X)] 28 (0, 0)) ∧ w1.heap[w.heap.size + 1]? = some (.cells #[.int .u64 0, .int .u64 0] 28 (0, 0)))
    ⟨(((Below.refl _ _).alloc (Nat.le_refl _) _).alloc (by simp) _), alloc_keeps (alloc_at rfl), alloc_at (by simp)⟩ ?_
  rintro w1 ⟨b1, k0, k1⟩
  refine call_then (wsub_any 0 X (by omega) (by omega) hX hX' _) ?_
  intro w2 hw2
  replace b1 := below_next b1 b1.size hw2
  replace k1 := keeps hw2 k1
  clear hw2 k0
  obtain ⟨c1, d1, f1, g1⟩ := blk2 k1
  go_wp2
  obtain ⟨c2, d2, _, _⟩ := blk2 (store2 (u := .int .u64 (lo (sub 2 0 X))) (v := .int .u64 (hi (sub 2 0 X))) k1)
  exact bodyPost_ret (v := .agg #[.int .u64 (lo (sub 2 0 X)), .int .u64 (hi (sub 2 0 X))]) (by simp [results, Tryz.results142, go_sem, c2, d2]) rfl ⟨rfl, below_store2 b1 (by omega)⟩

set_option maxHeartbeats 1000000 in
theorem wadd_any (X Y : Int) (hX : 0 ≤ X) (hX' : X < 340282366920938463463374607431768211456) (hY : 0 ≤ Y) (hY' : Y < 340282366920938463463374607431768211456) (w : World) :
    Calls Tryz.prog 120 #[.agg #[.int .u64 (lo X), .int .u64 (hi X)], .agg #[.int .u64 (lo Y), .int .u64 (hi Y)]] w fun e w' => e = .returned (.agg #[.int .u64 (lo (add 2 X Y)), .int .u64 (hi (add 2 X Y))]) ∧ Below w.heap.size w w' := by
  have hn := neg_bound 2 Y
  have hM' : M 2 < 340282366920938463463374607431768211456 := by rw [M2]; omega
  rw [← sub_neg_add]
  go_enter Tryz.func120, Tryz.ntmps120
  go_wp2
  refine name_wp (fun w1 => Below w.heap.size w w1 ∧ w1.heap[w.heap.size]? = some (.cells #[.int .u64 (lo X), .int .u64 (hi X)] 28 (0, 0)) ∧ w1.heap[w.heap.size + 1]? = some (.cells #[.int .u64 (lo Y), .int .u64 (hi Y)] 28 (0, 0)) ∧
      w1.heap[w.heap.size + 1 + 1]? = some (.cells #[.int .u64 0, .int .u64 0] 28 (0, 0)))
    ⟨(((Below.refl _ _).alloc (Nat.le_refl _) _).alloc (by simp) _).alloc (by simp; omega) _, alloc_keeps (alloc_keeps (alloc_at rfl)), alloc_keeps (alloc_at (by simp)), alloc_at (by simp)⟩ ?_
  rintro w1 ⟨b1, k0, k1, k2⟩
  refine wp_region_flow1 4 (by kernel_rfl) (by kernel_rfl) (by kernel_rfl) ?_
  apply Exists.intro
  refine ⟨fun ι _ φ hφ => ?_, fun wt hwt => ?_⟩
  · obtain ⟨e0, e1⟩ := hφ.two k0
    obtain ⟨e2, e3⟩ := hφ.two k1
    simp only [List.take_succ_cons, List.take_zero]
    repeat (go_big_quiet_step ((first
      | (go_at_call 142; exact flow_call hφ (wneg_any Y hY hY' _))
      | (go_at_call 130; exact flow_call hφ (wsub_any X (neg 2 Y) hX hX' hn.1 (by omega) _)))))
    exact wpQuiet_nil rfl
  replace b1 := below_next b1 b1.size hwt
  replace k2 := keeps hwt k2
  clear hwt k0 k1
  obtain ⟨c2, d2, f2, g2⟩ := blk2 k2
  simp only [List.drop_succ_cons, List.drop_zero]
  go_wp2
  obtain ⟨c2, d2, _, _⟩ := blk2 (store2 (u := .int .u64 (lo (sub 2 X (neg 2 Y)))) (v := .int .u64 (hi (sub 2 X (neg 2 Y)))) k2)
  exact bodyPost_ret (v := .agg #[.int .u64 (lo (sub 2 X (neg 2 Y))), .int .u64 (hi (sub 2 X (neg 2 Y)))]) (by simp [results, Tryz.results120, go_sem, c2, d2]) rfl ⟨rfl, below_store2 b1 (by omega)⟩
end Go.Proofs.YtebgfelbffgnbaaGreatDoor

/-
  Contracts of package wide: products: of 256 bits, and folded.
-/
namespace Go.Proofs.YtebgfelbffgnbaaGreatDoor
open Go.RowKit F Flow
set_option linter.unusedVariables false

theorem carry_eq (x y c : Int) : x + y + c = carried x y c * 18446744073709551616 + summed x y c := by unfold carried summed; omega
theorem borrow_eq {x y b : Int} (hx : 0 ≤ x) (hx' : x < 18446744073709551616) (hy : 0 ≤ y) (hy' : y < 18446744073709551616) (hb : 0 ≤ b) (hb' : b ≤ 1) : x - y - b = diff x y b - borrow x y b * 18446744073709551616 := by
  unfold diff borrow; split <;> omega
def mhi (x y : Int) : Int := x * y / 18446744073709551616
def mlo (x y : Int) : Int := x * y % 18446744073709551616
theorem mhl_eq (x y : Int) : x * y = mhi x y * 18446744073709551616 + mlo x y := by unfold mhi mlo; omega
theorem mlo_bound (x y : Int) : 0 ≤ mlo x y ∧ mlo x y < 18446744073709551616 := by unfold mlo; omega
theorem mul_le {x y : Int} (hx : 0 ≤ x) (hx' : x < 18446744073709551616) (hy : 0 ≤ y) (hy' : y < 18446744073709551616) : 0 ≤ x * y ∧ x * y ≤ 18446744073709551615 * 18446744073709551615 :=
  ⟨Int.mul_nonneg hx hy, Int.mul_le_mul (by omega) (by omega) hy (by omega)⟩
theorem mhi_bound {x y : Int} (hx : 0 ≤ x) (hx' : x < 18446744073709551616) (hy : 0 ≤ y) (hy' : y < 18446744073709551616) : 0 ≤ mhi x y ∧ mhi x y ≤ 18446744073709551614 := by
  have h := mul_le hx hx' hy hy'
  unfold mhi
  omega
theorem mul64_any (x y : Int) (hx : 0 ≤ x) (hx' : x < 18446744073709551616) (hy : 0 ≤ y) (hy' : y < 18446744073709551616) (w : World) :
    Calls Tryz.prog 148 #[.int .u64 x, .int .u64 y] w fun e w' => e = .returned (.tuple #[.int .u64 (mhi x y), .int .u64 (mlo x y)]) ∧ w = w' := by
  obtain ⟨X, rfl⟩ := Int.eq_ofNat_of_zero_le hx
  obtain ⟨Y, rfl⟩ := Int.eq_ofNat_of_zero_le hy
  have e1 : ((X * Y / 18446744073709551616 : Nat) : Int) = mhi X Y := by unfold mhi; rw [← Int.natCast_mul]; omega
  have e2 : ((X * Y % 18446744073709551616 : Nat) : Int) = mlo X Y := by unfold mlo; rw [← Int.natCast_mul]; omega
  have h := Tryz.bits_Mul64 X Y (by omega) (by omega) w
  rw [e1, e2] at h
  exact h.mono fun _ _ hh => ⟨hh.1, hh.2.symm⟩

/-- One place of a product: x times y, what stands there, and what is carried on. -/
def stUp (x y n : Int) : Int := carried (mlo x y) n 0
def stMid (x y n : Int) : Int := summed (mlo x y) n 0
def stLo (x y n c : Int) : Int := summed (stMid x y n) c 0
def stUp2 (x y n c : Int) : Int := carried (stMid x y n) c 0
def stHi (x y n c : Int) : Int := mhi x y + stUp x y n + stUp2 x y n c
theorem st_eq {x y n c : Int} : x * y + n + c = stHi x y n c * 18446744073709551616 + stLo x y n c := by
  have h := mhl_eq x y
  unfold stHi stLo stUp2 stUp stMid carried summed
  omega
theorem stMid_bound (x y n : Int) : 0 ≤ stMid x y n ∧ stMid x y n < 18446744073709551616 := summed_bound _ _ _
theorem stLo_bound (x y n c : Int) : 0 ≤ stLo x y n c ∧ stLo x y n c < 18446744073709551616 := summed_bound _ _ _
theorem st_bound {x y n c : Int} (hx : 0 ≤ x) (hx' : x < 18446744073709551616) (hy : 0 ≤ y) (hy' : y < 18446744073709551616) (hn : 0 ≤ n) (hn' : n < 18446744073709551616) (hc : 0 ≤ c) (hc' : c < 18446744073709551616) :
    0 ≤ stUp x y n ∧ stUp x y n ≤ 1 ∧ 0 ≤ stUp2 x y n c ∧ stUp2 x y n c ≤ 1 ∧ 0 ≤ stHi x y n c ∧ stHi x y n c < 18446744073709551616 := by
  have h1 := mul_le hx hx' hy hy'
  have h2 := @st_eq x y n c
  have h3 := stLo_bound x y n c
  have h4 : 0 ≤ stUp x y n ∧ stUp x y n ≤ 1 := carried_bound (mlo_bound x y).1 (mlo_bound x y).2 hn hn' (by omega) (by omega)
  have h5 : 0 ≤ stUp2 x y n c ∧ stUp2 x y n c ≤ 1 := carried_bound (stMid_bound x y n).1 (stMid_bound x y n).2 hc hc' (by omega) (by omega)
  refine ⟨h4.1, h4.2, h5.1, h5.2, ?_, ?_⟩ <;> omega
theorem st_run1 {x y n : Int} (hn : 0 ≤ n) (hn' : n < 18446744073709551616) (w : World) :
    (callFunc 162 #[.int .u64 (mlo x y), .int .u64 n, .int .u64 0]).run Tryz.prog w = .ok (.value (.tuple #[.int .u64 (stMid x y n), .int .u64 (stUp x y n)])) w :=
  add64_run _ _ _ (mlo_bound x y).1 (mlo_bound x y).2 hn hn' (by omega) (by omega) w
theorem st_run2 {x y n c : Int} (hc : 0 ≤ c) (hc' : c < 18446744073709551616) (w : World) :
    (callFunc 162 #[.int .u64 (stMid x y n), .int .u64 c, .int .u64 0]).run Tryz.prog w = .ok (.value (.tuple #[.int .u64 (stLo x y n c), .int .u64 (stUp2 x y n c)])) w :=
  add64_run _ _ _ (stMid_bound x y n).1 (stMid_bound x y n).2 hc hc' (by omega) (by omega) w

theorem idx0 (x y : Int) (w : World) : (Instr.index 28 (.agg #[.int .u64 x, .int .u64 y]) (.int .i64 0)).run Tryz.prog w = .ok (.int .u64 x) w := by kernel_rfl
theorem idx1 (x y : Int) (w : World) : (Instr.index 28 (.agg #[.int .u64 x, .int .u64 y]) (.int .i64 1)).run Tryz.prog w = .ok (.int .u64 y) w := by kernel_rfl
attribute [local go_sem] idx0 idx1
def pr0 (a0 a1 b0 b1 : Int) : Int := stLo a0 b0 0 0
def pr1 (a0 a1 b0 b1 : Int) : Int := stLo a1 b0 (stLo a0 b1 0 (stHi a0 b0 0 0)) 0
def pr2 (a0 a1 b0 b1 : Int) : Int := stLo a1 b1 (stHi a0 b1 0 (stHi a0 b0 0 0)) (stHi a1 b0 (stLo a0 b1 0 (stHi a0 b0 0 0)) 0)
def pr3 (a0 a1 b0 b1 : Int) : Int := stHi a1 b1 (stHi a0 b1 0 (stHi a0 b0 0 0)) (stHi a1 b0 (stLo a0 b1 0 (stHi a0 b0 0 0)) 0)
set_option maxHeartbeats 4000000 in
theorem wprod_raw (a0 a1 b0 b1 : Int) (hx : 0 ≤ a0) (hx' : a0 < 18446744073709551616) (hy : 0 ≤ a1) (hy' : a1 < 18446744073709551616) (h0 : 0 ≤ b0) (h0' : b0 < 18446744073709551616) (h1 : 0 ≤ b1) (h1' : b1 < 18446744073709551616) (w : World) :
    Calls Tryz.prog 150 #[.agg #[.int .u64 a0, .int .u64 a1], .agg #[.int .u64 b0, .int .u64 b1]] w fun e w' => e = .returned (.agg #[.int .u64 (pr0 a0 a1 b0 b1), .int .u64 (pr1 a0 a1 b0 b1), .int .u64 (pr2 a0 a1 b0 b1), .int .u64 (pr3 a0 a1 b0 b1)]) ∧ Below w.heap.size w w' := by
  have pb := st_bound (x := a0) (y := b0) (n := 0) (c := 0) (by omega) (by omega) (by omega) (by omega) (by omega) (by omega) (by omega) (by omega)
  have pc := mhi_bound (x := a0) (y := b0) (by omega) (by omega) (by omega) (by omega)
  have pl := stLo_bound (a0) (b0) (0) (0)
  have pr : ∀ w, _ := st_run1 (x := a0) (y := b0) (n := 0) (by omega) (by omega)
  have ps : ∀ w, _ := st_run2 (x := a0) (y := b0) (n := 0) (c := 0) (by omega) (by omega)
  have ph : mhi (a0) (b0) + stUp (a0) (b0) (0) + stUp2 (a0) (b0) (0) (0) = stHi (a0) (b0) (0) (0) := rfl
  have qb := st_bound (x := a0) (y := b1) (n := 0) (c := stHi a0 b0 0 0) (by omega) (by omega) (by omega) (by omega) (by omega) (by omega) (by omega) (by omega)
  have qc := mhi_bound (x := a0) (y := b1) (by omega) (by omega) (by omega) (by omega)
  have ql := stLo_bound (a0) (b1) (0) (stHi a0 b0 0 0)
  have qr : ∀ w, _ := st_run1 (x := a0) (y := b1) (n := 0) (by omega) (by omega)
  have qs : ∀ w, _ := st_run2 (x := a0) (y := b1) (n := 0) (c := stHi a0 b0 0 0) (by omega) (by omega)
  have qh : mhi (a0) (b1) + stUp (a0) (b1) (0) + stUp2 (a0) (b1) (0) (stHi a0 b0 0 0) = stHi (a0) (b1) (0) (stHi a0 b0 0 0) := rfl
  have rb := st_bound (x := a1) (y := b0) (n := stLo a0 b1 0 (stHi a0 b0 0 0)) (c := 0) (by omega) (by omega) (by omega) (by omega) (by omega) (by omega) (by omega) (by omega)
  have rc := mhi_bound (x := a1) (y := b0) (by omega) (by omega) (by omega) (by omega)
  have rl := stLo_bound (a1) (b0) (stLo a0 b1 0 (stHi a0 b0 0 0)) (0)
  have rr : ∀ w, _ := st_run1 (x := a1) (y := b0) (n := stLo a0 b1 0 (stHi a0 b0 0 0)) (by omega) (by omega)
  have rs : ∀ w, _ := st_run2 (x := a1) (y := b0) (n := stLo a0 b1 0 (stHi a0 b0 0 0)) (c := 0) (by omega) (by omega)
  have rh : mhi (a1) (b0) + stUp (a1) (b0) (stLo a0 b1 0 (stHi a0 b0 0 0)) + stUp2 (a1) (b0) (stLo a0 b1 0 (stHi a0 b0 0 0)) (0) = stHi (a1) (b0) (stLo a0 b1 0 (stHi a0 b0 0 0)) (0) := rfl
  have sb := st_bound (x := a1) (y := b1) (n := stHi a0 b1 0 (stHi a0 b0 0 0)) (c := stHi a1 b0 (stLo a0 b1 0 (stHi a0 b0 0 0)) 0) (by omega) (by omega) (by omega) (by omega) (by omega) (by omega) (by omega) (by omega)
  have sc := mhi_bound (x := a1) (y := b1) (by omega) (by omega) (by omega) (by omega)
  have sl := stLo_bound (a1) (b1) (stHi a0 b1 0 (stHi a0 b0 0 0)) (stHi a1 b0 (stLo a0 b1 0 (stHi a0 b0 0 0)) 0)
  have sr : ∀ w, _ := st_run1 (x := a1) (y := b1) (n := stHi a0 b1 0 (stHi a0 b0 0 0)) (by omega) (by omega)
  have ss : ∀ w, _ := st_run2 (x := a1) (y := b1) (n := stHi a0 b1 0 (stHi a0 b0 0 0)) (c := stHi a1 b0 (stLo a0 b1 0 (stHi a0 b0 0 0)) 0) (by omega) (by omega)
  have sh : mhi (a1) (b1) + stUp (a1) (b1) (stHi a0 b1 0 (stHi a0 b0 0 0)) + stUp2 (a1) (b1) (stHi a0 b1 0 (stHi a0 b0 0 0)) (stHi a1 b0 (stLo a0 b1 0 (stHi a0 b0 0 0)) 0) = stHi (a1) (b1) (stHi a0 b1 0 (stHi a0 b0 0 0)) (stHi a1 b0 (stLo a0 b1 0 (stHi a0 b0 0 0)) 0) := rfl
  go_enter Tryz.func150, Tryz.ntmps150
  go_wp2
  refine wp_loop_rounds 3 ?_
  rw [rounds_succ]
  go_wp2
  refine wp_loop_rounds 3 ?_
  rw [rounds_succ]
  go_wp2_with (go_at_call 148; refine (mul64_any _ _ (by omega) (by omega) (by omega) (by omega) _).mono ?_; rintro e w' ⟨rfl, rfl⟩)
  rw [rounds_succ]
  go_wp2_with (go_at_call 148; refine (mul64_any _ _ (by omega) (by omega) (by omega) (by omega) _).mono ?_; rintro e w' ⟨rfl, rfl⟩)
  rw [rounds_succ]
  go_wp2
  rw [rounds_succ]
  go_wp2
  refine wp_loop_rounds 3 ?_
  rw [rounds_succ]
  go_wp2_with (go_at_call 148; refine (mul64_any _ _ (by omega) (by omega) (by omega) (by omega) _).mono ?_; rintro e w' ⟨rfl, rfl⟩)
  rw [rounds_succ]
  go_wp2_with (go_at_call 148; refine (mul64_any _ _ (by omega) (by omega) (by omega) (by omega) _).mono ?_; rintro e w' ⟨rfl, rfl⟩)
  rw [rounds_succ]
  go_wp2
  rw [rounds_succ]
  go_wp2
  exact bodyPost_ret (v := .agg #[.int .u64 (pr0 a0 a1 b0 b1), .int .u64 (pr1 a0 a1 b0 b1), .int .u64 (pr2 a0 a1 b0 b1), .int .u64 (pr3 a0 a1 b0 b1)]) (by simp [results, Tryz.results150, go_sem]; exact ⟨rfl, rfl, rfl, rfl⟩) rfl
    ⟨rfl, ((((Below.refl _ _).alloc (Nat.le_refl _) _).alloc (by simp) _).alloc (by simp; omega) _).alloc (by simp; omega) _⟩

/-- A number of 256 bits. -/
def val4 (a b c d : Int) : Int := a + b * 18446744073709551616 + c * 340282366920938463463374607431768211456 + d * 6277101735386680763835789423207666416102355444464034512896
def Word (a : Int) : Prop := 0 ≤ a ∧ a < 18446744073709551616
theorem pr_val (a0 a1 b0 b1 : Int) : val4 (pr0 a0 a1 b0 b1) (pr1 a0 a1 b0 b1) (pr2 a0 a1 b0 b1) (pr3 a0 a1 b0 b1) = val a0 a1 * val b0 b1 := by
  have e1 := @st_eq a0 b0 0 0
  have e2 := @st_eq a0 b1 0 (stHi a0 b0 0 0)
  have e3 := @st_eq a1 b0 (stLo a0 b1 0 (stHi a0 b0 0 0)) 0
  have e4 := @st_eq a1 b1 (stHi a0 b1 0 (stHi a0 b0 0 0)) (stHi a1 b0 (stLo a0 b1 0 (stHi a0 b0 0 0)) 0)
  unfold val4 val pr0 pr1 pr2 pr3
  generalize stLo a0 b0 0 0 = l1 at *
  generalize stHi a0 b0 0 0 = h1 at *
  generalize stLo a0 b1 0 h1 = l2 at *
  generalize stHi a0 b1 0 h1 = h2 at *
  generalize stLo a1 b0 l2 0 = l3 at *
  generalize stHi a1 b0 l2 0 = h3 at *
  generalize stLo a1 b1 h2 h3 = l4 at *
  generalize stHi a1 b1 h2 h3 = h4 at *
  have e : (a0 + a1 * 18446744073709551616) * (b0 + b1 * 18446744073709551616) = a0 * b0 + (a0 * b1 + a1 * b0) * 18446744073709551616 + a1 * b1 * 340282366920938463463374607431768211456 := by
    grind
  rw [e]
  omega
theorem pr_words {a0 a1 b0 b1 : Int} (hx : 0 ≤ a0) (hx' : a0 < 18446744073709551616) (hy : 0 ≤ a1) (hy' : a1 < 18446744073709551616) (h0 : 0 ≤ b0) (h0' : b0 < 18446744073709551616) (h1 : 0 ≤ b1) (h1' : b1 < 18446744073709551616) :
    Word (pr0 a0 a1 b0 b1) ∧ Word (pr1 a0 a1 b0 b1) ∧ Word (pr2 a0 a1 b0 b1) ∧ Word (pr3 a0 a1 b0 b1) := by
  have pb := st_bound (x := a0) (y := b0) (n := 0) (c := 0) (by omega) (by omega) (by omega) (by omega) (by omega) (by omega) (by omega) (by omega)
  have pc := mhi_bound (x := a0) (y := b0) (by omega) (by omega) (by omega) (by omega)
  have pl := stLo_bound (a0) (b0) (0) (0)
  have pr : ∀ w, _ := st_run1 (x := a0) (y := b0) (n := 0) (by omega) (by omega)
  have ps : ∀ w, _ := st_run2 (x := a0) (y := b0) (n := 0) (c := 0) (by omega) (by omega)
  have ph : mhi (a0) (b0) + stUp (a0) (b0) (0) + stUp2 (a0) (b0) (0) (0) = stHi (a0) (b0) (0) (0) := rfl
  have qb := st_bound (x := a0) (y := b1) (n := 0) (c := stHi a0 b0 0 0) (by omega) (by omega) (by omega) (by omega) (by omega) (by omega) (by omega) (by omega)
  have qc := mhi_bound (x := a0) (y := b1) (by omega) (by omega) (by omega) (by omega)
  have ql := stLo_bound (a0) (b1) (0) (stHi a0 b0 0 0)
  have qr : ∀ w, _ := st_run1 (x := a0) (y := b1) (n := 0) (by omega) (by omega)
  have qs : ∀ w, _ := st_run2 (x := a0) (y := b1) (n := 0) (c := stHi a0 b0 0 0) (by omega) (by omega)
  have qh : mhi (a0) (b1) + stUp (a0) (b1) (0) + stUp2 (a0) (b1) (0) (stHi a0 b0 0 0) = stHi (a0) (b1) (0) (stHi a0 b0 0 0) := rfl
  have rb := st_bound (x := a1) (y := b0) (n := stLo a0 b1 0 (stHi a0 b0 0 0)) (c := 0) (by omega) (by omega) (by omega) (by omega) (by omega) (by omega) (by omega) (by omega)
  have rc := mhi_bound (x := a1) (y := b0) (by omega) (by omega) (by omega) (by omega)
  have rl := stLo_bound (a1) (b0) (stLo a0 b1 0 (stHi a0 b0 0 0)) (0)
  have rr : ∀ w, _ := st_run1 (x := a1) (y := b0) (n := stLo a0 b1 0 (stHi a0 b0 0 0)) (by omega) (by omega)
  have rs : ∀ w, _ := st_run2 (x := a1) (y := b0) (n := stLo a0 b1 0 (stHi a0 b0 0 0)) (c := 0) (by omega) (by omega)
  have rh : mhi (a1) (b0) + stUp (a1) (b0) (stLo a0 b1 0 (stHi a0 b0 0 0)) + stUp2 (a1) (b0) (stLo a0 b1 0 (stHi a0 b0 0 0)) (0) = stHi (a1) (b0) (stLo a0 b1 0 (stHi a0 b0 0 0)) (0) := rfl
  have sb := st_bound (x := a1) (y := b1) (n := stHi a0 b1 0 (stHi a0 b0 0 0)) (c := stHi a1 b0 (stLo a0 b1 0 (stHi a0 b0 0 0)) 0) (by omega) (by omega) (by omega) (by omega) (by omega) (by omega) (by omega) (by omega)
  have sc := mhi_bound (x := a1) (y := b1) (by omega) (by omega) (by omega) (by omega)
  have sl := stLo_bound (a1) (b1) (stHi a0 b1 0 (stHi a0 b0 0 0)) (stHi a1 b0 (stLo a0 b1 0 (stHi a0 b0 0 0)) 0)
  have sr : ∀ w, _ := st_run1 (x := a1) (y := b1) (n := stHi a0 b1 0 (stHi a0 b0 0 0)) (by omega) (by omega)
  have ss : ∀ w, _ := st_run2 (x := a1) (y := b1) (n := stHi a0 b1 0 (stHi a0 b0 0 0)) (c := stHi a1 b0 (stLo a0 b1 0 (stHi a0 b0 0 0)) 0) (by omega) (by omega)
  have sh : mhi (a1) (b1) + stUp (a1) (b1) (stHi a0 b1 0 (stHi a0 b0 0 0)) + stUp2 (a1) (b1) (stHi a0 b1 0 (stHi a0 b0 0 0)) (stHi a1 b0 (stLo a0 b1 0 (stHi a0 b0 0 0)) 0) = stHi (a1) (b1) (stHi a0 b1 0 (stHi a0 b0 0 0)) (stHi a1 b0 (stLo a0 b1 0 (stHi a0 b0 0 0)) 0) := rfl
  exact ⟨pl, rl, sl, ⟨sb.2.2.2.2.1, sb.2.2.2.2.2⟩⟩

/-- What folding makes of a number, word by word. -/
def fh (n2 n3 : Int) : Int := summed (mlo n3 28) (mhi n2 28) 0
def fc (n2 n3 : Int) : Int := carried (mlo n3 28) (mhi n2 28) 0
def ft (n2 n3 : Int) : Int := mhi n3 28 + fc n2 n3
def f1 (n1 n2 : Int) : Int := summed n1 (mlo n2 28) 0
def f1c (n1 n2 : Int) : Int := carried n1 (mlo n2 28) 0
def f2 (n1 n2 n3 : Int) : Int := summed (fh n2 n3) 0 (f1c n1 n2)
def f2c (n1 n2 n3 : Int) : Int := carried (fh n2 n3) 0 (f1c n1 n2)
def f3 (n1 n2 n3 : Int) : Int := ft n2 n3 + f2c n1 n2 n3
def g0 (n0 n2 : Int) : Int := diff n0 n2 0
def g0b (n0 n2 : Int) : Int := borrow n0 n2 0
def g1 (n0 n1 n2 n3 : Int) : Int := diff (f1 n1 n2) n3 (g0b n0 n2)
def g1b (n0 n1 n2 n3 : Int) : Int := borrow (f1 n1 n2) n3 (g0b n0 n2)
def g2 (n0 n1 n2 n3 : Int) : Int := diff (f2 n1 n2 n3) 0 (g1b n0 n1 n2 n3)
def g2b (n0 n1 n2 n3 : Int) : Int := borrow (f2 n1 n2 n3) 0 (g1b n0 n1 n2 n3)
def g3 (n0 n1 n2 n3 : Int) : Int := f3 n1 n2 n3 - g2b n0 n1 n2 n3
theorem fold_facts {n0 n1 n2 n3 : Int} (h0 : Word n0) (h1 : Word n1) (h2 : Word n2) (h3 : Word n3) :
    (Word (fh n2 n3) ∧ 0 ≤ fc n2 n3 ∧ fc n2 n3 ≤ 1 ∧ 0 ≤ mhi n3 28 ∧ mhi n3 28 ≤ 28 ∧ Word (f1 n1 n2) ∧ 0 ≤ f1c n1 n2 ∧ f1c n1 n2 ≤ 1 ∧ Word (f2 n1 n2 n3) ∧ 0 ≤ f2c n1 n2 n3 ∧ f2c n1 n2 n3 ≤ 1) ∧
    (0 ≤ g0b n0 n2 ∧ g0b n0 n2 ≤ 1 ∧ 0 ≤ g1b n0 n1 n2 n3 ∧ g1b n0 n1 n2 n3 ≤ 1 ∧ 0 ≤ g2b n0 n1 n2 n3 ∧ g2b n0 n1 n2 n3 ≤ 1) ∧
    (Word (g0 n0 n2) ∧ Word (g1 n0 n1 n2 n3) ∧ Word (g2 n0 n1 n2 n3) ∧ Word (g3 n0 n1 n2 n3)) ∧
    val4 (g0 n0 n2) (g1 n0 n1 n2 n3) (g2 n0 n1 n2 n3) (g3 n0 n1 n2 n3) = val4 n0 n1 n2 n3 - val n2 n3 * M 2 := by
  have m2 := mhl_eq n2 28
  have m3 := mhl_eq n3 28
  have l2 := mlo_bound n2 28
  have l3 := mlo_bound n3 28
  unfold Word at *
  have u2 : 0 ≤ mhi n2 28 ∧ mhi n2 28 ≤ 28 := by omega
  have u3 : 0 ≤ mhi n3 28 ∧ mhi n3 28 ≤ 28 := by omega
  unfold g3 g2 g2b g1 g1b g0 g0b f3 f2c f2 f1c f1 ft fc fh
  generalize mhi n2 28 = x2 at *
  generalize mlo n2 28 = y2 at *
  generalize mhi n3 28 = x3 at *
  generalize mlo n3 28 = y3 at *
  have a1 := carry_eq y3 x2 0
  have a2 := summed_bound y3 x2 0
  have a3 := carried_bound (x := y3) (y := x2) (c := 0) (by omega) (by omega) (by omega) (by omega) (by omega) (by omega)
  generalize summed y3 x2 0 = hh at *
  generalize carried y3 x2 0 = hc at *
  have b1 := carry_eq n1 y2 0
  have b2 := summed_bound n1 y2 0
  have b3 := carried_bound (x := n1) (y := y2) (c := 0) (by omega) (by omega) (by omega) (by omega) (by omega) (by omega)
  generalize summed n1 y2 0 = r1 at *
  generalize carried n1 y2 0 = c1 at *
  have d1 := carry_eq hh 0 c1
  have d2 := summed_bound hh 0 c1
  have d3 := carried_bound (x := hh) (y := 0) (c := c1) (by omega) (by omega) (by omega) (by omega) (by omega) (by omega)
  generalize summed hh 0 c1 = r2 at *
  generalize carried hh 0 c1 = c2 at *
  have e1 := borrow_eq (x := n0) (y := n2) (b := 0) (by omega) (by omega) (by omega) (by omega) (by omega) (by omega)
  have e2 := diff_bound n0 n2 0
  have e3 := borrow_bound n0 n2 0
  generalize diff n0 n2 0 = s0 at *
  generalize borrow n0 n2 0 = v0 at *
  have p1 := borrow_eq (x := r1) (y := n3) (b := v0) (by omega) (by omega) (by omega) (by omega) (by omega) (by omega)
  have p2 := diff_bound r1 n3 v0
  have p3 := borrow_bound r1 n3 v0
  generalize diff r1 n3 v0 = s1 at *
  generalize borrow r1 n3 v0 = v1 at *
  have q1 := borrow_eq (x := r2) (y := 0) (b := v1) (by omega) (by omega) (by omega) (by omega) (by omega) (by omega)
  have q2 := diff_bound r2 0 v1
  have q3 := borrow_bound r2 0 v1
  generalize diff r2 0 v1 = s2 at *
  generalize borrow r2 0 v1 = v2 at *
  have hval : val4 s0 s1 s2 (x3 + hc + c2 - v2) = val4 n0 n1 n2 n3 - val n2 n3 * M 2 := by
    unfold val4 val
    rw [M2]
    omega
  have hpos : 0 ≤ val4 n0 n1 n2 n3 - val n2 n3 * M 2 := by unfold val4 val; rw [M2]; omega
  refine ⟨⟨a2, a3.1, a3.2, u3.1, u3.2, b2, b3.1, b3.2, d2, d3.1, d3.2⟩, ⟨e3.1, e3.2, p3.1, p3.2, q3.1, q3.2⟩, ⟨e2, p2, q2, ?_, by omega⟩, hval⟩
  rw [← hval] at hpos
  unfold val4 at hpos
  omega

set_option maxHeartbeats 4000000 in
theorem wfold_raw (n0 n1 n2 n3 : Int) (h0 : Word n0) (h1 : Word n1) (h2 : Word n2) (h3 : Word n3) (w : World) :
    Calls Tryz.prog 151 #[.agg #[.int .u64 n0, .int .u64 n1, .int .u64 n2, .int .u64 n3]] w fun e w' => e = .returned (.agg #[.int .u64 (g0 n0 n2), .int .u64 (g1 n0 n1 n2 n3), .int .u64 (g2 n0 n1 n2 n3), .int .u64 (g3 n0 n1 n2 n3)]) ∧ Below w.heap.size w w' := by
  obtain ⟨⟨q1, q2, q3, q4, q5, q6, q7, q8, q9, q10, q11⟩, ⟨v1, v2, v3, v4, v5, v6⟩, ⟨z1, z2, z3, z4⟩, _⟩ := fold_facts h0 h1 h2 h3
  have l2 := mlo_bound n2 28
  have l3 := mlo_bound n3 28
  unfold Word at *
  have u2 := mhi_bound (x := n2) (y := 28) (by omega) (by omega) (by omega) (by omega)
  have R1 : ∀ w, (callFunc 162 #[.int .u64 (mlo n3 28), .int .u64 (mhi n2 28), .int .u64 0]).run Tryz.prog w = .ok (.value (.tuple #[.int .u64 (fh n2 n3), .int .u64 (fc n2 n3)])) w := add64_run _ _ _ (by omega) (by omega) (by omega) (by omega) (by omega) (by omega)
  have R2 : ∀ w, (callFunc 162 #[.int .u64 n1, .int .u64 (mlo n2 28), .int .u64 0]).run Tryz.prog w = .ok (.value (.tuple #[.int .u64 (f1 n1 n2), .int .u64 (f1c n1 n2)])) w := add64_run _ _ _ (by omega) (by omega) (by omega) (by omega) (by omega) (by omega)
  have R3 : ∀ w, (callFunc 162 #[.int .u64 (fh n2 n3), .int .u64 0, .int .u64 (f1c n1 n2)]).run Tryz.prog w = .ok (.value (.tuple #[.int .u64 (f2 n1 n2 n3), .int .u64 (f2c n1 n2 n3)])) w := add64_run _ _ _ (by omega) (by omega) (by omega) (by omega) (by omega) (by omega)
  have R4 : ∀ w, (callFunc 155 #[.int .u64 n0, .int .u64 n2, .int .u64 0]).run Tryz.prog w = .ok (.value (.tuple #[.int .u64 (g0 n0 n2), .int .u64 (g0b n0 n2)])) w := sub64_run _ _ _ (by omega) (by omega) (by omega) (by omega) (by omega) (by omega)
  have R5 : ∀ w, (callFunc 155 #[.int .u64 (f1 n1 n2), .int .u64 n3, .int .u64 (g0b n0 n2)]).run Tryz.prog w = .ok (.value (.tuple #[.int .u64 (g1 n0 n1 n2 n3), .int .u64 (g1b n0 n1 n2 n3)])) w := sub64_run _ _ _ (by omega) (by omega) (by omega) (by omega) (by omega) (by omega)
  have R6 : ∀ w, (callFunc 155 #[.int .u64 (f2 n1 n2 n3), .int .u64 0, .int .u64 (g1b n0 n1 n2 n3)]).run Tryz.prog w = .ok (.value (.tuple #[.int .u64 (g2 n0 n1 n2 n3), .int .u64 (g2b n0 n1 n2 n3)])) w := sub64_run _ _ _ (by omega) (by omega) (by omega) (by omega) (by omega) (by omega)
  have T1 : mhi n3 28 + fc n2 n3 = ft n2 n3 := rfl
  have T2 : ft n2 n3 + f2c n1 n2 n3 = f3 n1 n2 n3 := rfl
  have T3 : f3 n1 n2 n3 - g2b n0 n1 n2 n3 = g3 n0 n1 n2 n3 := rfl
  have t1 : 0 ≤ ft n2 n3 ∧ ft n2 n3 ≤ 29 := by unfold ft; omega
  have t2 : 0 ≤ f3 n1 n2 n3 ∧ f3 n1 n2 n3 ≤ 30 := by unfold f3; omega
  have t3 : 0 ≤ f3 n1 n2 n3 - g2b n0 n1 n2 n3 := z4.1
  go_enter Tryz.func151, Tryz.ntmps151
  go_wp2_with (go_at_call 148; refine (mul64_any _ _ (by omega) (by omega) (by omega) (by omega) _).mono ?_; rintro e w' ⟨rfl, rfl⟩)
  exact bodyPost_ret (v := .agg #[.int .u64 (g0 n0 n2), .int .u64 (g1 n0 n1 n2 n3), .int .u64 (g2 n0 n1 n2 n3), .int .u64 (g3 n0 n1 n2 n3)]) (by simp [results, Tryz.results151, go_sem]) rfl
    ⟨rfl, ((((Below.refl _ _).alloc (Nat.le_refl _) _).alloc (by simp) _).alloc (by simp; omega) _)⟩
end Go.Proofs.YtebgfelbffgnbaaGreatDoor

/-
  Contracts of package wide: products modulo the modulus.
-/
namespace Go.Proofs.YtebgfelbffgnbaaGreatDoor
open Go.RowKit F Flow
set_option linter.unusedVariables false

/-- The number that a block of four words holds. -/
def inner (b : Nat) (w : World) : Nat :=
  match w.heap[b]? with
  | some (.cells c _ _) => (val4 (intOf (c.getD 0 undef)) (intOf (c.getD 1 undef)) (intOf (c.getD 2 undef)) (intOf (c.getD 3 undef))).toNat
  | _ => 0
theorem inner_of {b : Nat} {w : World} {n0 n1 n2 n3 : Int} {t : TypeId} (h : w.heap[b]? = some (.cells #[.int .u64 n0, .int .u64 n1, .int .u64 n2, .int .u64 n3] t (0, 0))) : inner b w = (val4 n0 n1 n2 n3).toNat := by
  unfold inner; rw [h]; rfl
theorem blk4 {w : World} {b : Nat} {u0 u1 u2 u3 : Value} {t : TypeId} (h : w.heap[b]? = some (.cells #[u0, u1, u2, u3] t (0, 0))) :
    w.cell? ⟨b, 0, none⟩ = some u0 ∧ w.cell? ⟨b, 1, none⟩ = some u1 ∧ w.cell? ⟨b, 2, none⟩ = some u2 ∧ w.cell? ⟨b, 3, none⟩ = some u3 ∧
      w.frozen? ⟨b, 0, none⟩ = false ∧ w.frozen? ⟨b, 1, none⟩ = false ∧ w.frozen? ⟨b, 2, none⟩ = false ∧ w.frozen? ⟨b, 3, none⟩ = false := by
  refine ⟨?_, ?_, ?_, ?_, ?_, ?_, ?_, ?_⟩ <;> simp [World.cell?, World.frozen?, h]
theorem store4 {w : World} {b : Nat} {x0 x1 x2 x3 u0 u1 u2 u3 : Value} {t : TypeId} (h : w.heap[b]? = some (.cells #[x0, x1, x2, x3] t (0, 0))) :
    ((((w.setCell ⟨b, 0, none⟩ u0).setCell ⟨b, 1, none⟩ u1).setCell ⟨b, 2, none⟩ u2).setCell ⟨b, 3, none⟩ u3).heap[b]? = some (.cells #[u0, u1, u2, u3] t (0, 0)) :=
  store1 (store1 (store1 (store1 h)))
theorem store4_far {w : World} {b k : Nat} {o : Obj} {u0 u1 u2 u3 : Value} (h : w.heap[k]? = some o) (hk : k ≠ b) :
    ((((w.setCell ⟨b, 0, none⟩ u0).setCell ⟨b, 1, none⟩ u1).setCell ⟨b, 2, none⟩ u2).setCell ⟨b, 3, none⟩ u3).heap[k]? = some o :=
  store_far (store_far (store_far (store_far h hk) hk) hk) hk
theorem below_store4 {B : Nat} {a w : World} {b : Nat} {u0 u1 u2 u3 : Value} (h : Below B a w) (hb : B ≤ b) :
    Below B a ((((w.setCell ⟨b, 0, none⟩ u0).setCell ⟨b, 1, none⟩ u1).setCell ⟨b, 2, none⟩ u2).setCell ⟨b, 3, none⟩ u3) :=
  (((h.setCell (p := ⟨b, 0, none⟩) hb _).setCell (p := ⟨b, 1, none⟩) hb _).setCell (p := ⟨b, 2, none⟩) hb _).setCell (p := ⟨b, 3, none⟩) hb _

/-- What a product's folding knows. -/
def MInv (w : World) (X Y : Int) (b : Nat) (n0 n1 n2 n3 : Int) (wr : World) : Prop :=
  Below w.heap.size w wr ∧ wr.heap[w.heap.size + 1 + 1]? = some (.cells #[.int .u64 0, .int .u64 0] 28 (0, 0)) ∧ wr.heap[b]? = some (.cells #[.int .u64 n0, .int .u64 n1, .int .u64 n2, .int .u64 n3] 152 (0, 0)) ∧
    Word n0 ∧ Word n1 ∧ Word n2 ∧ Word n3 ∧ val4 n0 n1 n2 n3 % M 2 = mul 2 X Y
theorem fold_less {n0 n1 n2 n3 : Int} (h0 : Word n0) (h1 : Word n1) (h2 : Word n2) (h3 : Word n3) (hne : n2 ≠ 0 ∨ n3 ≠ 0) :
    (val4 (g0 n0 n2) (g1 n0 n1 n2 n3) (g2 n0 n1 n2 n3) (g3 n0 n1 n2 n3)).toNat < (val4 n0 n1 n2 n3).toNat := by
  have h := (fold_facts h0 h1 h2 h3).2.2.2
  rw [h]
  unfold val4 val Word at *
  rw [M2]
  omega
theorem fold_same {n0 n1 n2 n3 : Int} (h0 : Word n0) (h1 : Word n1) (h2 : Word n2) (h3 : Word n3) :
    val4 (g0 n0 n2) (g1 n0 n1 n2 n3) (g2 n0 n1 n2 n3) (g3 n0 n1 n2 n3) % M 2 = val4 n0 n1 n2 n3 % M 2 := by
  rw [(fold_facts h0 h1 h2 h3).2.2.2, Int.sub_mul_emod_self_right]
theorem pr_mod {X Y : Int} (hX : 0 ≤ X) (hX' : X < 340282366920938463463374607431768211456) (hY : 0 ≤ Y) (hY' : Y < 340282366920938463463374607431768211456) :
    val4 (pr0 (lo X) (hi X) (lo Y) (hi Y)) (pr1 (lo X) (hi X) (lo Y) (hi Y)) (pr2 (lo X) (hi X) (lo Y) (hi Y)) (pr3 (lo X) (hi X) (lo Y) (hi Y)) % M 2 = mul 2 X Y := by
  rw [pr_val, val_lohi, val_lohi]
  unfold mul redu
  rw [if_neg (by decide), if_neg (by decide), ← Int.mul_emod]

set_option maxHeartbeats 2000000 in
theorem wmul_any (X Y : Int) (hX : 0 ≤ X) (hX' : X < 340282366920938463463374607431768211456) (hY : 0 ≤ Y) (hY' : Y < 340282366920938463463374607431768211456) (w : World) :
    Calls Tryz.prog 127 #[.agg #[.int .u64 (lo X), .int .u64 (hi X)], .agg #[.int .u64 (lo Y), .int .u64 (hi Y)]] w fun e w' => e = .returned (.agg #[.int .u64 (lo (mul 2 X Y)), .int .u64 (hi (mul 2 X Y))]) ∧ Below w.heap.size w w' := by
  have wo := pr_words (lo_nonneg X) (lo_lt X) (hi_nonneg hX) (hi_lt hX') (lo_nonneg Y) (lo_lt Y) (hi_nonneg hY) (hi_lt hY')
  have wv := Lib.hid (pr_mod hX hX' hY hY')
  go_enter Tryz.func127, Tryz.ntmps127
  go_wp2_with fail
  refine name_calls (fun w1 => Below w.heap.size w w1 ∧ w1.heap[w.heap.size + 1 + 1]? = some (.cells #[.int .u64 0, .int .u64 0] 28 (0, 0)))
    ⟨(((Below.refl _ _).alloc (Nat.le_refl _) _).alloc (by simp) _).alloc (by simp; omega) _, alloc_at (by simp)⟩ ?_
  rintro w1 ⟨b1, k2⟩
  refine call_then (wprod_raw _ _ _ _ (lo_nonneg X) (lo_lt X) (hi_nonneg hX) (hi_lt hX') (lo_nonneg Y) (lo_lt Y) (hi_nonneg hY) (hi_lt hY') _) ?_
  intro w2 hw2
  replace b1 := below_next b1 b1.size hw2
  replace k2 := keeps hw2 k2
  clear hw2
  generalize pr0 (lo X) (hi X) (lo Y) (hi Y) = r0 at *
  generalize pr1 (lo X) (hi X) (lo Y) (hi Y) = r1 at *
  generalize pr2 (lo X) (hi X) (lo Y) (hi Y) = r2 at *
  generalize pr3 (lo X) (hi X) (lo Y) (hi Y) = r3 at *
  go_wp2_with fail
  have hbig : w.heap.size + 1 + 1 < w2.heap.size := lt_of_get k2
  refine name_wp (MInv w X Y w2.heap.size r0 r1 r2 r3) ⟨b1.alloc b1.size _, alloc_keeps k2, alloc_at rfl, wo.1, wo.2.1, wo.2.2.1, wo.2.2.2, wv.out⟩ ?_
  clear b1 k2 wo wv
  generalize w2.heap.size = b at *
  intro w3 h3
  go_loopw [9] (fun _ wr => ∃ n0 n1 n2 n3 : Int, MInv w X Y b n0 n1 n2 n3 wr) (fun _ wr => inner b wr)
  case atStart => exact ⟨_, _, _, _, h3⟩
  case round =>
    obtain ⟨n0, n1, n2, n3, hm⟩ := hrel
    clear h3
    obtain ⟨mb, mk, m4, mw0, mw1, mw2, mw3, mv⟩ := hm
    obtain ⟨e0, e1, e2, e3, x0, x1, x2, x3⟩ := blk4 m4
    have hin := Lib.hid (inner_of m4)
    by_cases hn2 : n2 = 0
    · subst hn2
      by_cases hn3 : n3 = 0
      · subst hn3
        obtain ⟨z0, z1⟩ := id mw0
        obtain ⟨z2, z3⟩ := id mw1
        have hv : redu 2 (val n0 n1) = mul 2 X Y := by
          rw [← mv]
          unfold redu val val4
          rw [if_neg (by decide)]
          congr 1
          omega
        have hr := wof_any (val n0 n1) (by unfold val; omega) (by unfold val; omega)
        rw [lo_val z0 z1, hi_val z0 z1, hv] at hr
        replace hr := Lib.hid hr
        clear hv mv
        go_wp2_with fail
        refine call_then (hr.out _) ?_
        intro w4 hw4
        have b1 := below_next mb mb.size hw4
        have k1 := keeps hw4 mk
        clear hw4 e0 e1 e2 e3 x0 x1 x2 x3 m4 mk mb
        obtain ⟨c1, d1, f1, g1⟩ := blk2 k1
        go_wp2
        obtain ⟨c2, d2, _, _⟩ := blk2 (store2 (u := .int .u64 (lo (mul 2 X Y))) (v := .int .u64 (hi (mul 2 X Y))) k1)
        exact bodyPost_ret (v := .agg #[.int .u64 (lo (mul 2 X Y)), .int .u64 (hi (mul 2 X Y))]) (by simp [results, Tryz.results127, go_sem, c2, d2]) rfl ⟨rfl, below_store2 b1 (by omega)⟩
      · have hc : (n3 != 0) = true := by simpa using hn3
        have hless := Lib.hid (fold_less mw0 mw1 mw2 mw3 (.inr hn3))
        clear hn3
        have hf := (fold_facts mw0 mw1 mw2 mw3).2.2.1
        have hs := Lib.hid ((fold_same mw0 mw1 mw2 mw3).trans mv)
        go_wp2_with fail
        refine call_then (wfold_raw n0 n1 (0) n3 mw0 mw1 mw2 mw3 _) ?_
        intro w4 hw4
        replace mb := below_next mb mb.size hw4
        replace mk := keeps hw4 mk
        replace m4 := keeps hw4 m4
        clear hw4 e0 e1 e2 e3 x0 x1 x2 x3
        obtain ⟨e0, e1, e2, e3, x0, x1, x2, x3⟩ := blk4 m4
        go_wp2
        go_roundw
        case rel => exact ⟨_, _, _, _, below_store4 mb (by omega), store4_far mk (by omega), store4 m4, hf.1, hf.2.1, hf.2.2.1, hf.2.2.2, hs.out⟩
        case measure => rw [inner_of (store4 m4), hin.out]; exact hless.out
    · have hc : (n2 != 0) = true := by simpa using hn2
      have hless := Lib.hid (fold_less mw0 mw1 mw2 mw3 (.inl hn2))
      clear hn2
      have hf := (fold_facts mw0 mw1 mw2 mw3).2.2.1
      have hs := Lib.hid ((fold_same mw0 mw1 mw2 mw3).trans mv)
      go_wp2_with fail
      refine call_then (wfold_raw n0 n1 (n2) n3 mw0 mw1 mw2 mw3 _) ?_
      intro w4 hw4
      replace mb := below_next mb mb.size hw4
      replace mk := keeps hw4 mk
      replace m4 := keeps hw4 m4
      clear hw4 e0 e1 e2 e3 x0 x1 x2 x3
      obtain ⟨e0, e1, e2, e3, x0, x1, x2, x3⟩ := blk4 m4
      go_wp2
      go_roundw
      case rel => exact ⟨_, _, _, _, below_store4 mb (by omega), store4_far mk (by omega), store4 m4, hf.1, hf.2.1, hf.2.2.1, hf.2.2.2, hs.out⟩
      case measure => rw [inner_of (store4 m4), hin.out]; exact hless.out
end Go.Proofs.YtebgfelbffgnbaaGreatDoor

/-
  An array of whole numbers as an argument: opened, and shut.
-/
namespace Go.Proofs.YtebgfelbffgnbaaGreatDoor
open Go.RowKit Go.WideShapes Go.ChangeShapes
section
variable {H : Type} {enc : TypeId × Value → H} {P : Program} {w : World} {base : Nat} {spare : Nat → Bool} {held : Bool}
theorem okWide_array {t e : TypeId} {n : Nat} {r : Reach} {b0 : Nat} {v : Value} (ht : P.underlying t = some (.array n e)) (h : Value.okWide P w r b0 t v) : ∃ cs, v = .agg cs ∧ cs.size = P.cellsOf t := by
  simp only [Value.okWide, ht] at h
  obtain ⟨cs, h1, h2, _⟩ := h
  exact ⟨cs, h1, h2⟩

theorem mapM_ints {k : IntKind} {m : Nat} {e : TypeId} (he : P.underlying e = some (.int k)) : ∀ (cs : List Value) (f : Nat → Option (DataW H × List MemPlace)) (j : Nat) (xs : List (DataW H × List MemPlace)),
    (∀ i c, cs[i]? = some c → f (j + i) = DataW.trod enc P w base spare held m e [c]) → (List.range' j cs.length).mapM f = some xs →
    ∃ zs : List Int, cs = zs.map (.int k) ∧ xs.map (·.1) = zs.map (fun z => .lit (.int k z)) ∧ xs.flatMap (·.2) = [] ∧ ∀ z, z ∈ zs → (Lit.int k z).wf = true
  | [], f, j, xs, _, h => by
    simp at h
    subst h
    exact ⟨[], rfl, rfl, rfl, fun _ h => by cases h⟩
  | c :: cs, f, j, xs, hf, h => by
    rw [List.length_cons, List.range'_succ, List.mapM_cons] at h
    have h0 := hf 0 c rfl
    rw [Nat.add_zero] at h0
    rw [h0] at h
    cases hc : DataW.trod enc P w base spare held m e [c] with
    | none => rw [hc] at h; simp at h
    | some y =>
      rw [hc] at h
      cases hr : (List.range' (j + 1) cs.length).mapM f with
      | none => rw [hr] at h; simp at h
      | some ys =>
        rw [hr] at h
        simp at h
        subst h
        obtain ⟨zs, h1, h2, h3, h4⟩ := mapM_ints he cs f (j + 1) ys (fun i c hi => by rw [← hf (i + 1) c (by simpa using hi)]; congr 1; omega) hr
        obtain ⟨z, e0, rfl, wz⟩ := DataW.trod_int he hc
        simp at e0
        subst e0
        refine ⟨z :: zs, by rw [h1]; rfl, by simp [h2], by simp [h3], fun x hx => ?_⟩
        rcases List.mem_cons.1 hx with rfl | hx
        · exact wz
        · exact h4 x hx

/-- An array of whole numbers, opened. -/
theorem open_int_array {k : IntKind} {n : Nat} {t e : TypeId} {r : Reach} {b0 : Nat} {v : Value} {d : DataW H} {p : List MemPlace} (ht : P.underlying t = some (.array n e)) (he : P.underlying e = some (.int k)) (hce : P.cellsOf e = 1) (hC : P.cellsOf t = n)
    (hv : Value.okWide P w r b0 t v) (h : DataW.Trod enc P w base spare held t v d p) :
    ∃ zs : List Int, zs.length = n ∧ v = .agg (zs.map (.int k)).toArray ∧ d = .agg (zs.map fun z => .lit (.int k z)) ∧ p = [] ∧ ∀ z, z ∈ zs → (Lit.int k z).wf = true := by
  obtain ⟨cs, rfl, hsz⟩ := okWide_array ht hv
  obtain ⟨fuel, hf⟩ := h
  obtain ⟨cs⟩ := cs
  have hlen : cs.length = n := by simpa using hsz.trans hC
  cases fuel with
  | zero => simp [DataW.trod] at hf
  | succ m =>
    unfold DataW.trod at hf
    rw [ht] at hf
    simp [Value.cells, hC, hlen, hce] at hf
    obtain ⟨xs, hx, hd, hp⟩ := hf
    rw [List.range_eq_range', ← hlen] at hx
    obtain ⟨zs, h1, h2, h3, h4⟩ := mapM_ints (k := k) (m := m) (e := e) he cs _ 0 xs (fun i c hi => by
      rw [Nat.zero_add]
      congr 1
      have hi' := (List.getElem?_eq_some_iff.1 hi)
      obtain ⟨hl, hc⟩ := hi'
      rw [List.drop_eq_getElem_cons hl, hc, List.take_succ_cons, List.take_zero]) hx
    refine ⟨zs, by rw [← hlen, h1, List.length_map], by rw [h1], ?_, ?_, h4⟩
    · rw [← hd]; congr 1
    · rw [← hp]; exact h3

end
end Go.Proofs.YtebgfelbffgnbaaGreatDoor

/-
  What all laws of layer 2 lean on.
-/
namespace Go.Proofs.YtebgfelbffgnbaaGreatDoor
open Go.ChangeShapes Go.WideShapes Go.ChangeAt Go.RowKit F Flow
set_option linter.unusedVariables false
attribute [local go_sem] eql_elem

theorem cells_elem : (Tryz.prog).cellsOf 28 = 2 := by kernel_rfl
theorem cells_u64 : (Tryz.prog).cellsOf 26 = 1 := by kernel_rfl
set_option maxRecDepth 100000 in
theorem open_elem {H : Type} {enc : TypeId × Value → H} {w : World} {base : Nat} {spare : Nat → Bool} {held : Bool} {r : Reach} {b0 : Nat} {v : Value} {d : DataW H} {p : List MemPlace}
    (hv : Value.okWide Tryz.prog w r b0 28 v) (h : DataW.Trod enc Tryz.prog w base spare held 28 v d p) :
    ∃ x : Int, 0 ≤ x ∧ x < 340282366920938463463374607431768211456 ∧ v = .agg #[.int .u64 (lo x), .int .u64 (hi x)] ∧ d = .agg [.lit (.int .u64 (lo x)), .lit (.int .u64 (hi x))] ∧ p = [] := by
  obtain ⟨zs, hn, rfl, rfl, rfl, hw⟩ := open_int_array Tryz.underlying28 Tryz.underlying26 cells_u64 cells_elem hv h
  obtain ⟨a, b, rfl⟩ : ∃ a b, zs = [a, b] := by
    match zs, hn with
    | [a, b], _ => exact ⟨a, b, rfl⟩
  obtain ⟨a0, a1⟩ := wf_u64 (hw a (by simp))
  obtain ⟨b0, b1⟩ := wf_u64 (hw b (by simp))
  refine ⟨val a b, by unfold val; omega, by unfold val; omega, ?_⟩
  rw [lo_val a0 a1, hi_val a0 a1]
  exact ⟨rfl, rfl, rfl⟩
theorem lohi_eq {x y : Int} : (lo x == lo y && hi x == hi y) = (x == y) := by
  rw [Bool.eq_iff_iff]
  simp only [Bool.and_eq_true, beq_iff_eq]
  constructor
  · rintro ⟨h1, h2⟩; rw [← val_lohi x, ← val_lohi y, h1, h2]
  · rintro rfl; exact ⟨rfl, rfl⟩
end Go.Proofs.YtebgfelbffgnbaaGreatDoor

/-
  Contracts of package wide: halving.
-/
namespace Go.Proofs.YtebgfelbffgnbaaGreatDoor
open Go.RowKit F Flow
set_option linter.unusedVariables false
attribute [local go_sem] eql_elem

theorem shift_low {x : Int} {t : Nat} (h0 : 0 ≤ x) (h1 : x < 340282366920938463463374607431768211456) (ht : t ≤ 64) :
    bits .or .u64 (lo x / 2 ^ t) (IntKind.u64.wrap (hi x * 2 ^ (64 - t))) = lo (x / 2 ^ t) := by
  obtain ⟨n, rfl⟩ := Int.eq_ofNat_of_zero_le h0
  have e1 : lo (n : Int) / 2 ^ t = ((n % 18446744073709551616 / 2 ^ t : Nat) : Int) := by
    unfold lo; rw [Int.natCast_ediv, Int.natCast_emod, Int.natCast_pow]; rfl
  have e2 : IntKind.u64.wrap (hi (n : Int) * 2 ^ (64 - t)) = ((n / 18446744073709551616 * 2 ^ (64 - t) % 18446744073709551616 : Nat) : Int) := by
    have : IntKind.u64.wrap (hi (n : Int) * 2 ^ (64 - t)) = hi (n : Int) * 2 ^ (64 - t) % 18446744073709551616 := by simp [IntKind.wrap, IntKind.bits, IntKind.signed]
    rw [this]; unfold hi; rw [Int.natCast_emod, Int.natCast_mul, Int.natCast_ediv, Int.natCast_pow]; rfl
  have e3 : lo ((n : Int) / 2 ^ t) = ((n / 2 ^ t % 18446744073709551616 : Nat) : Int) := by
    unfold lo; rw [Int.natCast_emod, Int.natCast_ediv, Int.natCast_pow]; rfl
  have hp : (18446744073709551616 : Nat) = 2 ^ t * 2 ^ (64 - t) := by rw [← Nat.pow_add, show t + (64 - t) = 64 by omega]
  have p1 : 0 < 2 ^ t := Nat.pow_pos (by decide)
  have p2 : 0 < 2 ^ (64 - t) := Nat.pow_pos (by decide)
  have l1 : n % 18446744073709551616 / 2 ^ t < 2 ^ (64 - t) := by
    rw [Nat.div_lt_iff_lt_mul p1, Nat.mul_comm, ← hp]; omega
  have l2 : n / 18446744073709551616 * 2 ^ (64 - t) % 18446744073709551616 % 2 ^ (64 - t) = 0 := by
    rw [Nat.mod_mod_of_dvd _ ⟨2 ^ t, by rw [Nat.mul_comm]; exact hp⟩, Nat.mul_mod_left]
  have l3 : 2 ^ (64 - t) ≤ 18446744073709551616 := by rw [hp]; exact Nat.le_mul_of_pos_left _ p1
  rw [e1, e2, e3, u64_or_nat _ _ (by omega) (Nat.mod_lt _ (by decide)), Nat.or_comm, nat_join (64 - t) _ _ l2 l1]
  congr 1
  have k1 : n / 2 ^ t % 18446744073709551616 = (n / 2 ^ t / 2 ^ (64 - t)) % 2 ^ t * 2 ^ (64 - t) + n / 2 ^ t % 2 ^ (64 - t) := by
    rw [hp, Nat.mul_comm (2 ^ t) (2 ^ (64 - t)), Nat.mod_mul, Nat.add_comm, Nat.mul_comm (2 ^ (64 - t))]
  have k2 : n / 2 ^ t / 2 ^ (64 - t) = n / 18446744073709551616 := by rw [Nat.div_div_eq_div_mul, ← hp]
  have k3 : n / 2 ^ t % 2 ^ (64 - t) = n % 18446744073709551616 / 2 ^ t := by
    rw [hp, Nat.mod_mul_right_div_self]
  have k4 : n / 18446744073709551616 * 2 ^ (64 - t) % 18446744073709551616 = n / 18446744073709551616 % 2 ^ t * 2 ^ (64 - t) := by
    conv => lhs; rw [hp]
    rw [Nat.mul_mod_mul_right]
    rw [← hp]
  rw [k1, k2, k3, k4]
theorem shift_high (x : Int) (t : Nat) : hi (x / 2 ^ t) = hi x / 2 ^ t := by
  unfold hi
  rw [Int.ediv_ediv_of_nonneg (Int.le_of_lt (Int.pow_pos (by decide))), Int.mul_comm, ← Int.ediv_ediv_of_nonneg (by decide)]
theorem shift_far {x : Int} {t : Nat} (h0 : 0 ≤ x) (h1 : x < 340282366920938463463374607431768211456) (ht : 64 ≤ t) : hi x / 2 ^ (t - 64) = lo (x / 2 ^ t) ∧ hi (x / 2 ^ t) = 0 := by
  have e : x / 2 ^ t = hi x / 2 ^ (t - 64) := by
    unfold hi
    rw [Int.ediv_ediv_of_nonneg (by decide), show (18446744073709551616 : Int) = 2 ^ 64 from rfl, ← Int.pow_add, show 64 + (t - 64) = t by omega]
  have b := half_bound (hi_nonneg h0) (t - 64)
  have c := hi_lt h1
  rw [e]
  exact ⟨(lo_of_lt b.1 (by omega)).symm, hi_of_lt b.1 (by omega)⟩

theorem wshift_lo (x t : Int) (h0 : 0 ≤ x) (h1 : x < 340282366920938463463374607431768211456) (t0 : 0 ≤ t) (ht : t < 64) (w : World) :
    Calls Tryz.prog 134 #[.agg #[.int .u64 (lo x), .int .u64 (hi x)], .int .u64 t] w fun e w' => e = .returned (.agg #[.int .u64 (lo (x / 2 ^ t.toNat)), .int .u64 (hi (x / 2 ^ t.toNat))]) ∧ Below w.heap.size w w' := by
  have b0 := hi_nonneg h0
  have b1 := hi_lt h1
  have a0 := lo_nonneg x
  have a1 := lo_lt x
  have e1 := shift_low (x := x) (t := t.toNat) h0 h1 (by omega)
  rw [show 64 - t.toNat = (64 - t).toNat by omega] at e1
  replace e1 := Lib.hid e1
  have e2 := Lib.hid (shift_high x t.toNat)
  go_enter Tryz.func134, Tryz.ntmps134
  go_wp2
  rw [e1.out, ← e2.out]
  exact bodyPost_ret (v := .agg #[.int .u64 (lo (x / 2 ^ t.toNat)), .int .u64 (hi (x / 2 ^ t.toNat))]) (by simp [results, Tryz.results134, go_sem]) rfl ⟨rfl, ((Below.refl _ _).alloc (Nat.le_refl _) _).alloc (by simp) _⟩
theorem wshift_hi (x t : Int) (h0 : 0 ≤ x) (h1 : x < 340282366920938463463374607431768211456) (t0 : 64 ≤ t) (ht : t < 128) (w : World) :
    Calls Tryz.prog 134 #[.agg #[.int .u64 (lo x), .int .u64 (hi x)], .int .u64 t] w fun e w' => e = .returned (.agg #[.int .u64 (lo (x / 2 ^ t.toNat)), .int .u64 (hi (x / 2 ^ t.toNat))]) ∧ Below w.heap.size w w' := by
  have b0 := hi_nonneg h0
  have b1 := hi_lt h1
  have e1 := shift_far (x := x) (t := t.toNat) h0 h1 (by omega)
  rw [show t.toNat - 64 = (t - 64).toNat by omega] at e1
  replace e1 := Lib.hid e1
  go_enter Tryz.func134, Tryz.ntmps134
  go_wp2
  rw [e1.out.1, e1.out.2]
  exact bodyPost_ret (v := .agg #[.int .u64 (lo (x / 2 ^ t.toNat)), .int .u64 0]) (by simp [results, Tryz.results134, go_sem]) rfl ⟨rfl, ((Below.refl _ _).alloc (Nat.le_refl _) _).alloc (by simp) _⟩
theorem wshift_any (x t : Int) (h0 : 0 ≤ x) (h1 : x < 340282366920938463463374607431768211456) (t0 : 0 ≤ t) (ht : t < 128) (w : World) :
    Calls Tryz.prog 134 #[.agg #[.int .u64 (lo x), .int .u64 (hi x)], .int .u64 t] w fun e w' => e = .returned (.agg #[.int .u64 (lo (x / 2 ^ t.toNat)), .int .u64 (hi (x / 2 ^ t.toNat))]) ∧ Below w.heap.size w w' := by
  by_cases h : t < 64
  · exact wshift_lo x t h0 h1 t0 h w
  · exact wshift_hi x t h0 h1 (by omega) ht w
theorem wshift_one (x : Int) (h0 : 0 ≤ x) (h1 : x < 340282366920938463463374607431768211456) (w : World) :
    Calls Tryz.prog 134 #[.agg #[.int .u64 (lo x), .int .u64 (hi x)], .int .u64 1] w fun e w' => e = .returned (.agg #[.int .u64 (lo (x / 2)), .int .u64 (hi (x / 2))]) ∧ Below w.heap.size w w' :=
  wshift_any x 1 h0 h1 (by omega) (by omega) w
end Go.Proofs.YtebgfelbffgnbaaGreatDoor

/-
  Contracts of package wide: powers.
-/
namespace Go.Proofs.YtebgfelbffgnbaaGreatDoor
open Go.RowKit F Flow
set_option linter.unusedVariables false
attribute [local go_sem] eql_elem

/-- What a power's loop knows, in the large field. -/
def WInv (a n p b m : Int) : Prop := p * redu 2 b ^ m.toNat % M 2 = pow 2 a n.toNat ∧ 0 ≤ p ∧ p < M 2 ∧ 0 ≤ b ∧ b < 340282366920938463463374607431768211456 ∧ 0 ≤ m ∧ m < 340282366920938463463374607431768211456
theorem winv_start {a n : Int} (h0 : 0 ≤ a) (h1 : a < 340282366920938463463374607431768211456) (h2 : 0 ≤ n) (h3 : n < 340282366920938463463374607431768211456) : WInv a n 1 a n :=
  ⟨by unfold pow; rw [Int.one_mul], by omega, by rw [M2]; omega, h0, h1, h2, h3⟩
theorem winv_end {a n p b : Int} (h : WInv a n p b 0) : p = pow 2 a n.toNat := by
  obtain ⟨h1, h2, h3, _⟩ := h
  rw [← h1, show (0 : Int).toNat = 0 by omega, Int.pow_zero, Int.mul_one, Int.emod_eq_of_lt h2 h3]
theorem wsquare_pow (b : Int) (k : Nat) : redu 2 (mul 2 b b) ^ k % M 2 = redu 2 b ^ (2 * k) % M 2 := by
  have h := mul_bound 2 b b
  rw [redu_small (by decide) h.1 h.2]
  unfold mul
  rw [pow_emod, Int.pow_mul, Int.pow_succ, Int.pow_succ, Int.pow_zero, Int.one_mul]
theorem winv_even {a n p b m : Int} (h : WInv a n p b m) (he : m % 2 = 0) : WInv a n p (mul 2 b b) (m / 2) := by
  obtain ⟨h1, h2, h3, h4, h5, h6, h7⟩ := h
  have hb := mul_bound 2 b b
  refine ⟨?_, h2, h3, hb.1, by rw [M2] at hb; omega, by omega, by omega⟩
  rw [← h1, Int.mul_emod, wsquare_pow, ← Int.mul_emod]
  congr 3
  omega
theorem winv_odd {a n p b m : Int} (h : WInv a n p b m) (ho : m % 2 = 1) : WInv a n (mul 2 p b) (mul 2 b b) (m / 2) := by
  obtain ⟨h1, h2, h3, h4, h5, h6, h7⟩ := h
  have hb := mul_bound 2 b b
  have hp := mul_bound 2 p b
  refine ⟨?_, hp.1, hp.2, hb.1, by rw [M2] at hb; omega, by omega, by omega⟩
  rw [← h1, Int.mul_emod, wsquare_pow, ← Int.mul_emod]
  conv => lhs; unfold mul
  rw [redu_small (by decide) h2 h3, Int.mul_emod, Int.emod_emod, ← Int.mul_emod, Int.mul_assoc, ← Int.pow_succ']
  congr 3
  omega
theorem MulInv.putx {w : World} {x y z : Int} {b : Nat} {w1 : World} (z' : Int) (h : MulInv w x y z b w1) (hb : w.heap.size + 1 + 1 < b) :
    MulInv w z' y z b ((w1.setCell ⟨w.heap.size, 0, none⟩ (.int .u64 (lo z'))).setCell ⟨w.heap.size, 1, none⟩ (.int .u64 (hi z'))) :=
  ⟨below_store2 h.1 (by omega), store2 h.2.1, store2_far h.2.2.1 (by omega), store2_far h.2.2.2.1 (by omega), store2_far h.2.2.2.2 (by omega)⟩
theorem MulInv.puty {w : World} {x y z : Int} {b : Nat} {w1 : World} (z' : Int) (h : MulInv w x y z b w1) (hb : w.heap.size + 1 + 1 < b) :
    MulInv w x z' z b ((w1.setCell ⟨w.heap.size + 1, 0, none⟩ (.int .u64 (lo z'))).setCell ⟨w.heap.size + 1, 1, none⟩ (.int .u64 (hi z'))) :=
  ⟨below_store2 h.1 (by omega), store2_far h.2.1 (by omega), store2 h.2.2.1, store2_far h.2.2.2.1 (by omega), store2_far h.2.2.2.2 (by omega)⟩
/-- The number that a block of two words holds. -/
def inner2 (b : Nat) (w : World) : Nat :=
  match w.heap[b]? with
  | some (.cells c _ _) => (val (intOf (c.getD 0 undef)) (intOf (c.getD 1 undef))).toNat
  | _ => 0
theorem inner2_of {b : Nat} {w : World} {x : Int} {t : TypeId} (h : w.heap[b]? = some (.cells #[.int .u64 (lo x), .int .u64 (hi x)] t (0, 0))) : inner2 b w = x.toNat := by
  unfold inner2; rw [h]; show (val (lo x) (hi x)).toNat = _; rw [val_lohi]

set_option maxHeartbeats 2000000 in
theorem wpow_any (a n : Int) (a0 : 0 ≤ a) (a1 : a < 340282366920938463463374607431768211456) (n0 : 0 ≤ n) (n1 : n < 340282366920938463463374607431768211456) (w : World) :
    Calls Tryz.prog 98 #[.agg #[.int .u64 (lo a), .int .u64 (hi a)], .agg #[.int .u64 (lo n), .int .u64 (hi n)]] w fun e w' => e = .returned (.agg #[.int .u64 (lo (pow 2 a n.toNat)), .int .u64 (hi (pow 2 a n.toNat))]) ∧ Below w.heap.size w w' := by
  go_enter Tryz.func98, Tryz.ntmps98
  go_wp2_with fail
  refine name_wp (MulInv w a n 1 (w.heap.size + 1 + 1 + 1))
    ⟨((((Below.refl _ _).alloc (Nat.le_refl _) _).alloc (by simp) _).alloc (by simp; omega) _).alloc (by simp; omega) _, alloc_keeps (alloc_keeps (alloc_keeps (alloc_at rfl))), alloc_keeps (alloc_keeps (alloc_at (by simp))), alloc_keeps (alloc_at (by simp)), alloc_at (by simp)⟩ ?_
  have hbig : w.heap.size + 1 + 1 < w.heap.size + 1 + 1 + 1 := by omega
  generalize w.heap.size + 1 + 1 + 1 = k at *
  intro w3 h3
  go_loopw [9] (fun _ wr => ∃ b m q : Int, MulInv w b m q k wr ∧ WInv a n q b m) (fun _ wr => inner2 (w.heap.size + 1) wr)
  case atStart => exact ⟨_, _, _, h3, winv_start a0 a1 n0 n1⟩
  case round =>
    obtain ⟨b, m, q, h1, hI⟩ := hrel
    clear h3
    have hmeas := Lib.hid (inner2_of h1.2.2.1)
    by_cases hm : m = 0
    · subst hm
      have hq := winv_end hI
      clear hI
      subst hq
      have z0 : lo 0 = 0 := rfl
      have z1 : hi 0 = 0 := rfl
      obtain ⟨c0, d0, f0, g0⟩ := blk2 h1.2.1
      obtain ⟨c1, d1, f1, g1⟩ := blk2 h1.2.2.1
      obtain ⟨c2, d2, f2, g2⟩ := blk2 h1.2.2.2.1
      obtain ⟨c3, d3, f3, g3⟩ := blk2 h1.2.2.2.2
      go_wp2
      obtain ⟨p2, q2, _, _⟩ := blk2 (store2 (u := .int .u64 (lo (pow 2 a n.toNat))) (v := .int .u64 (hi (pow 2 a n.toNat))) h1.2.2.2.1)
      exact bodyPost_ret (v := .agg #[.int .u64 (lo (pow 2 a n.toNat)), .int .u64 (hi (pow 2 a n.toNat))]) (by simp [results, Tryz.results98, go_sem, p2, q2]) rfl ⟨rfl, below_store2 h1.1 (by omega)⟩
    · have hd : (lo m == 0 && hi m == 0) = false := by rw [zero_iff hI.2.2.2.2.2.1]; simpa using hm
      have hless : (m / 2).toNat < m.toNat := by have := hI.2.2.2.2.2.1; omega
      replace hless := Lib.hid hless
      have hand := and_one (lo_nonneg m) (lo_lt m)
      have hmod : lo m % 2 = m % 2 := by unfold lo; omega
      rw [hmod] at hand
      have hi2 := hI.2.1
      have hi3 := hI.2.2.1
      rw [M2] at hi3
      have hi4 := hI.2.2.2.1
      have hi5 := hI.2.2.2.2.1
      have hi6 := hI.2.2.2.2.2.1
      have hi7 := hI.2.2.2.2.2.2
      clear hm hmod
      by_cases ho : m % 2 = 1
      · rw [ho] at hand
        have hnext := Lib.hid (winv_odd hI ho)
        clear hI ho
        obtain ⟨c0, d0, f0, g0⟩ := blk2 h1.2.1
        obtain ⟨c1, d1, f1, g1⟩ := blk2 h1.2.2.1
        obtain ⟨c2, d2, f2, g2⟩ := blk2 h1.2.2.2.1
        obtain ⟨c3, d3, f3, g3⟩ := blk2 h1.2.2.2.2
        go_wp2_with fail
        clear c0 d0 f0 g0 c1 d1 f1 g1 c2 d2 f2 g2 c3 d3 f3 g3
        refine call_then (wmul_any q b hi2 (by omega) hi4 hi5 _) ?_
        intro w4 hw4
        replace h1 := h1.on hw4
        clear hw4
        obtain ⟨c0, d0, f0, g0⟩ := blk2 h1.2.1
        obtain ⟨c1, d1, f1, g1⟩ := blk2 h1.2.2.1
        obtain ⟨c2, d2, f2, g2⟩ := blk2 h1.2.2.2.1
        obtain ⟨c3, d3, f3, g3⟩ := blk2 h1.2.2.2.2
        go_wp2_with fail
        clear c0 d0 f0 g0 c1 d1 f1 g1 c2 d2 f2 g2 c3 d3 f3 g3
        refine name_calls (MulInv w b m (mul 2 q b) k) (h1.put _ hbig) ?_
        clear h1
        intro w5 h1
        refine call_then (wmul_any b b hi4 hi5 hi4 hi5 _) ?_
        intro w6 hw6
        replace h1 := h1.on hw6
        clear hw6
        obtain ⟨c0, d0, f0, g0⟩ := blk2 h1.2.1
        obtain ⟨c1, d1, f1, g1⟩ := blk2 h1.2.2.1
        obtain ⟨c2, d2, f2, g2⟩ := blk2 h1.2.2.2.1
        obtain ⟨c3, d3, f3, g3⟩ := blk2 h1.2.2.2.2
        go_wp2_with fail
        clear c0 d0 f0 g0 c1 d1 f1 g1 c2 d2 f2 g2 c3 d3 f3 g3
        refine name_calls (MulInv w (mul 2 b b) m (mul 2 q b) k) (h1.putx _ hbig) ?_
        clear h1
        intro w7 h1
        refine call_then (wshift_one m hi6 hi7 _) ?_
        intro w8 hw8
        replace h1 := h1.on hw8
        clear hw8
        obtain ⟨c0, d0, f0, g0⟩ := blk2 h1.2.1
        obtain ⟨c1, d1, f1, g1⟩ := blk2 h1.2.2.1
        obtain ⟨c2, d2, f2, g2⟩ := blk2 h1.2.2.2.1
        obtain ⟨c3, d3, f3, g3⟩ := blk2 h1.2.2.2.2
        go_wp2
        clear c0 d0 f0 g0 c1 d1 f1 g1 c2 d2 f2 g2 c3 d3 f3 g3
        go_roundw
        case rel => exact ⟨_, _, _, h1.puty _ hbig, hnext.out⟩
        case measure => rw [inner2_of (h1.puty (m / 2) hbig).2.2.1, hmeas.out]; exact hless.out
      · have he : m % 2 = 0 := by omega
        rw [he] at hand
        have hnext := Lib.hid (winv_even hI he)
        clear hI ho he
        obtain ⟨c0, d0, f0, g0⟩ := blk2 h1.2.1
        obtain ⟨c1, d1, f1, g1⟩ := blk2 h1.2.2.1
        obtain ⟨c2, d2, f2, g2⟩ := blk2 h1.2.2.2.1
        obtain ⟨c3, d3, f3, g3⟩ := blk2 h1.2.2.2.2
        go_wp2_with fail
        clear c0 d0 f0 g0 c1 d1 f1 g1 c2 d2 f2 g2 c3 d3 f3 g3
        refine call_then (wmul_any b b hi4 hi5 hi4 hi5 _) ?_
        intro w6 hw6
        replace h1 := h1.on hw6
        clear hw6
        obtain ⟨c0, d0, f0, g0⟩ := blk2 h1.2.1
        obtain ⟨c1, d1, f1, g1⟩ := blk2 h1.2.2.1
        obtain ⟨c2, d2, f2, g2⟩ := blk2 h1.2.2.2.1
        obtain ⟨c3, d3, f3, g3⟩ := blk2 h1.2.2.2.2
        go_wp2_with fail
        clear c0 d0 f0 g0 c1 d1 f1 g1 c2 d2 f2 g2 c3 d3 f3 g3
        refine name_calls (MulInv w (mul 2 b b) m (q) k) (h1.putx _ hbig) ?_
        clear h1
        intro w7 h1
        refine call_then (wshift_one m hi6 hi7 _) ?_
        intro w8 hw8
        replace h1 := h1.on hw8
        clear hw8
        have hin := Lib.hid (inner2_of h1.2.2.1)
        obtain ⟨c0, d0, f0, g0⟩ := blk2 h1.2.1
        obtain ⟨c1, d1, f1, g1⟩ := blk2 h1.2.2.1
        obtain ⟨c2, d2, f2, g2⟩ := blk2 h1.2.2.2.1
        obtain ⟨c3, d3, f3, g3⟩ := blk2 h1.2.2.2.2
        go_wp2
        clear c0 d0 f0 g0 c1 d1 f1 g1 c2 d2 f2 g2 c3 d3 f3 g3
        go_roundw
        case rel => exact ⟨_, _, _, h1.puty _ hbig, hnext.out⟩
        case measure => rw [inner2_of (h1.puty (m / 2) hbig).2.2.1, hmeas.out]; exact hless.out
end Go.Proofs.YtebgfelbffgnbaaGreatDoor

/-
  Any number to any power is the document's; by what wide's Inv says a number is 1, and of 0 it says that there is none.
-/
namespace Go.Proofs.YtebgfelbffgnbaaGreatDoor
open Go.ChangeShapes Go.WideShapes Go.ChangeAt Go.RowKit F Flow
set_option linter.unusedVariables false
attribute [local go_sem] eql_elem

/-- Fermat, of the large field. -/
theorem winv_one {a : Int} (h0 : 0 ≤ a) (hz : redu 2 a ≠ 0) : mul 2 a (pow 2 a 340282366920938462946865773367900766207) = 1 := by
  have hb := redu_nonneg 2 a
  have hl := redu_lt 2 a
  have hp := pow_bound 2 a 340282366920938462946865773367900766207
  have e : mul 2 a (pow 2 a 340282366920938462946865773367900766207) = redu 2 a ^ 340282366920938462946865773367900766208 % M 2 := by
    rw [show mul 2 a (pow 2 a 340282366920938462946865773367900766207) = redu 2 a * redu 2 (pow 2 a 340282366920938462946865773367900766207) % M 2 from rfl, redu_small (by decide) hp.1 hp.2]
    rw [show pow 2 a 340282366920938462946865773367900766207 = redu 2 a ^ 340282366920938462946865773367900766207 % M 2 from rfl, Int.mul_emod, Int.emod_emod, ← Int.mul_emod, Int.mul_comm, ← Int.pow_succ]
  rw [e]
  rw [M2] at *
  obtain ⟨n, hn⟩ := Int.eq_ofNat_of_zero_le hb
  rw [hn] at hz hl ⊢
  have hnd : ¬ 340282366920938462946865773367900766209 ∣ n := fun h => by
    have := Nat.le_of_dvd (by omega) h
    omega
  have hf := Prime.fermat_one Prime.large_prime hnd
  rw [show (340282366920938462946865773367900766209 : Int) = ((340282366920938462946865773367900766209 : Nat) : Int) from rfl, ← Int.natCast_pow, ← Int.natCast_emod]
  rw [show 340282366920938462946865773367900766209 - 1 = 340282366920938462946865773367900766208 from rfl] at hf
  rw [hf]
  rfl

set_option maxHeartbeats 1000000 in
theorem winv_zero (a : Int) (h0 : 0 ≤ a) (h1 : a < 340282366920938463463374607431768211456) (hz : redu 2 a = 0) (w : World) :
    Calls Tryz.prog 116 #[.agg #[.int .u64 (lo a), .int .u64 (hi a)]] w fun e w' => e = .returned (.tuple #[.agg #[.int .u64 (lo 0), .int .u64 (hi 0)], .int .i64 8]) ∧ Below w.heap.size w w' := by
  have z0 : lo 0 = 0 := rfl
  have z1 : hi 0 = 0 := rfl
  have hc := wof_any a h0 h1
  rw [hz] at hc
  replace hc := Lib.hid hc
  go_enter Tryz.func116, Tryz.ntmps116
  go_wp2_with fail
  refine name_calls (fun w1 => Below w.heap.size w w1 ∧ w1.heap[w.heap.size]? = some (.cells #[.int .u64 (lo a), .int .u64 (hi a)] 28 (0, 0)) ∧ w1.heap[w.heap.size + 1]? = some (.cells #[.int .u64 0, .int .u64 0] 28 (0, 0)))
    ⟨(((Below.refl _ _).alloc (Nat.le_refl _) _).alloc (by simp) _), alloc_keeps (alloc_at rfl), alloc_at (by simp)⟩ ?_
  rintro w1 ⟨b1, k0, k1⟩
  refine call_then (hc.out _) ?_
  intro w2 hw2
  replace b1 := below_next b1 b1.size hw2
  replace k0 := keeps hw2 k0
  replace k1 := keeps hw2 k1
  clear hw2
  obtain ⟨c0, d0, f0, g0⟩ := blk2 k0
  obtain ⟨c1, d1, f1, g1⟩ := blk2 k1
  go_wp2
  obtain ⟨c2, d2, _, _⟩ := blk2 (store2 (u := .int .u64 0) (v := .int .u64 0) k1)
  exact bodyPost_ret (v := .tuple #[.agg #[.int .u64 0, .int .u64 0], .int .i64 8]) (by simp [results, Tryz.results116, go_sem, c2, d2]) rfl ⟨rfl, below_store2 b1 (by omega)⟩
set_option maxHeartbeats 1000000 in
theorem winv_other (a : Int) (h0 : 0 ≤ a) (h1 : a < 340282366920938463463374607431768211456) (hz : redu 2 a ≠ 0) (w : World) :
    Calls Tryz.prog 116 #[.agg #[.int .u64 (lo a), .int .u64 (hi a)]] w fun e w' => e = .returned (.tuple #[.agg #[.int .u64 (lo (pow 2 a 340282366920938462946865773367900766207)), .int .u64 (hi (pow 2 a 340282366920938462946865773367900766207))], .int .i64 0]) ∧ Below w.heap.size w w' := by
  have hd : (lo (redu 2 a) == 0 && hi (redu 2 a) == 0) = false := by rw [zero_iff (redu_nonneg 2 a)]; simpa using hz
  have hl := wless_any (M 2) 2 (by omega) (by decide) (by decide)
  rw [show M 2 - 2 = 340282366920938462946865773367900766207 from rfl, show lo 2 = 2 from rfl, show hi 2 = 0 from rfl] at hl
  have hp := wpow_any a 340282366920938462946865773367900766207 h0 h1 (by omega) (by omega)
  rw [show (340282366920938462946865773367900766207 : Int).toNat = 340282366920938462946865773367900766207 from rfl] at hp
  generalize pow 2 a 340282366920938462946865773367900766207 = z at *
  replace hl := Lib.hid hl
  replace hp := Lib.hid hp
  go_enter Tryz.func116, Tryz.ntmps116
  go_wp2_with fail
  refine name_calls (fun w1 => Below w.heap.size w w1 ∧ w1.heap[w.heap.size]? = some (.cells #[.int .u64 (lo a), .int .u64 (hi a)] 28 (0, 0)) ∧ w1.heap[w.heap.size + 1]? = some (.cells #[.int .u64 0, .int .u64 0] 28 (0, 0)))
    ⟨(((Below.refl _ _).alloc (Nat.le_refl _) _).alloc (by simp) _), alloc_keeps (alloc_at rfl), alloc_at (by simp)⟩ ?_
  rintro w1 ⟨b1, k0, k1⟩
  refine call_then (wof_any a h0 h1 _) ?_
  intro w2 hw2
  replace b1 := below_next b1 b1.size hw2
  replace k0 := keeps hw2 k0
  replace k1 := keeps hw2 k1
  clear hw2
  go_wp2
  refine wp_region_flow1 5 (by kernel_rfl) (by kernel_rfl) (by kernel_rfl) ?_
  apply Exists.intro
  refine ⟨fun ι _ φ hφ => ?_, fun wt hwt => ?_⟩
  · obtain ⟨e0, e1⟩ := hφ.two k0
    simp only [List.take_succ_cons, List.take_zero]
    repeat (go_big_quiet_step ((first
      | (go_at_call 138; exact flow_call hφ (wp_any _))
      | (go_at_call 137; exact flow_call hφ (hl.out _))
      | (go_at_call 98; exact flow_call hφ (hp.out _)))))
    exact wpQuiet_nil rfl
  replace b1 := below_next b1 b1.size hwt
  replace k1 := keeps hwt k1
  clear hwt k0
  obtain ⟨c1, d1, f1, g1⟩ := blk2 k1
  simp only [List.drop_succ_cons, List.drop_zero]
  go_wp2
  obtain ⟨c2, d2, _, _⟩ := blk2 (store2 (u := .int .u64 (lo z)) (v := .int .u64 (hi z)) k1)
  exact bodyPost_ret (v := .tuple #[.agg #[.int .u64 (lo z), .int .u64 (hi z)], .int .i64 0]) (by simp [results, Tryz.results116, go_sem, c2, d2]) rfl ⟨rfl, below_store2 b1 (by omega)⟩

end Go.Proofs.YtebgfelbffgnbaaGreatDoor

/-
  Any order: wide's root of 1 is of just that order; of no other order there is one.
-/
namespace Go.Proofs.YtebgfelbffgnbaaGreatDoor
open Go.ChangeShapes Go.WideShapes Go.ChangeAt Go.RowKit F Flow
set_option linter.unusedVariables false
attribute [local go_sem] eql_elem

theorem wexp_bound (n : Nat) : (0 : Int) ≤ 340282366920938462946865773367900766208 / 2 ^ n ∧ (340282366920938462946865773367900766208 : Int) / 2 ^ n < 340282366920938463463374607431768211456 := by
  have h := half_bound (x := 340282366920938462946865773367900766208) (by omega) n
  omega

set_option maxHeartbeats 1000000 in
theorem wroot_some (log : Int) (h0 : 0 ≤ log) (h1 : log ≤ 66) (w : World) :
    Calls Tryz.prog 114 #[.int .i64 log] w fun e w' => e = .returned (.tuple #[.agg #[.int .u64 (lo (pow 2 7 (340282366920938462946865773367900766208 / 2 ^ log.toNat : Int).toNat)), .int .u64 (hi (pow 2 7 (340282366920938462946865773367900766208 / 2 ^ log.toNat : Int).toNat))], .int .i64 0]) ∧ Below w.heap.size w w' := by
  have he := wexp_bound log.toNat
  have hp := wpow_any 7 (340282366920938462946865773367900766208 / 2 ^ log.toNat) (by omega) (by omega) he.1 he.2
  rw [show lo 7 = 7 from rfl, show hi 7 = 0 from rfl] at hp
  have hl := wless_any (M 2) 1 (by omega) (by decide) (by decide)
  rw [show M 2 - 1 = 340282366920938462946865773367900766208 from rfl, show lo 1 = 1 from rfl, show hi 1 = 0 from rfl] at hl
  have hs := wshift_any 340282366920938462946865773367900766208 log (by omega) (by omega) h0 (by omega)
  generalize pow 2 7 (340282366920938462946865773367900766208 / 2 ^ log.toNat : Int).toNat = z at *
  generalize (340282366920938462946865773367900766208 / 2 ^ log.toNat : Int) = n at *
  replace hl := Lib.hid hl
  replace hp := Lib.hid hp
  replace hs := Lib.hid hs
  go_enter Tryz.func114, Tryz.ntmps114
  go_wp2_with fail
  refine name_calls (fun w1 => Below w.heap.size w w1 ∧ w1.heap[w.heap.size]? = some (.cells #[.int .u64 0, .int .u64 0] 28 (0, 0)))
    ⟨(Below.refl _ _).alloc (Nat.le_refl _) _, alloc_at rfl⟩ ?_
  rintro w1 ⟨b1, k0⟩
  refine call_then (wp_any _) ?_
  intro w2 hw2
  replace b1 := below_next b1 b1.size hw2
  replace k0 := keeps hw2 k0
  clear hw2
  go_wp2_with fail
  refine call_then (hl.out _) ?_
  intro w3 hw3
  replace b1 := below_next b1 b1.size hw3
  replace k0 := keeps hw3 k0
  clear hw3
  go_wp2_with fail
  refine call_then (hs.out _) ?_
  intro w4 hw4
  replace b1 := below_next b1 b1.size hw4
  replace k0 := keeps hw4 k0
  clear hw4
  go_wp2_with fail
  refine call_then (hp.out _) ?_
  intro w5 hw5
  replace b1 := below_next b1 b1.size hw5
  replace k0 := keeps hw5 k0
  clear hw5
  obtain ⟨c0, d0, f0, g0⟩ := blk2 k0
  go_wp2
  obtain ⟨c2, d2, _, _⟩ := blk2 (store2 (u := .int .u64 (lo z)) (v := .int .u64 (hi z)) k0)
  exact bodyPost_ret (v := .tuple #[.agg #[.int .u64 (lo z), .int .u64 (hi z)], .int .i64 0]) (by simp [results, Tryz.results114, go_sem, c2, d2]) rfl ⟨rfl, below_store2 b1 (Nat.le_refl _)⟩

theorem wpow_nat (a n : Nat) (ha : a < 340282366920938462946865773367900766209) : pow 2 a n = ((a ^ n % 340282366920938462946865773367900766209 : Nat) : Int) := by
  unfold pow
  rw [redu_small (by decide) (by omega) (by rw [M2]; omega), M2, Int.natCast_emod, Int.natCast_pow]
  rfl
theorem wpow_val (n v f : Nat) (hf : n < 2 ^ f) (h : Prime.pmF 340282366920938462946865773367900766209 7 f n = v) : pow 2 7 n = (v : Int) := by
  rw [← h, Prime.pmF_eq _ _ f n hf]
  exact wpow_nat 7 n (by omega)
theorem wpow_half : pow 2 7 170141183460469231473432886683950383104 = 340282366920938462946865773367900766208 := wpow_val 170141183460469231473432886683950383104 340282366920938462946865773367900766208 128 (by decide +kernel) (by decide +kernel)
theorem wpow_whole : pow 2 7 340282366920938462946865773367900766208 = 1 := wpow_val 340282366920938462946865773367900766208 1 128 (by decide +kernel) (by decide +kernel)
theorem wexp_halves : ∀ L : Fin 67, 1 ≤ L.val → (340282366920938462946865773367900766208 / 2 ^ L.val : Int).toNat * 2 ^ (L.val - 1) = 170141183460469231473432886683950383104 := by decide +kernel
end Go.Proofs.YtebgfelbffgnbaaGreatDoor
