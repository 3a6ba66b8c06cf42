import Derived.Test.YtebgfelbffgnbaaGreatDoorBB
import Derived.Test.YtebgfelbffgnbaaGreatDoorBC
import Derived.Test.YtebgfelbffgnbaaGreatDoorBA
import Derived.Test.YtebgfelbffgnbaaGreatDoorRows
import Derived.Laws.AppendOwn
import Derived.Laws.BytesArg
import Derived.OwnWalk
import Derived.Below
/-
  Contracts of package field: each of the two fields' sums, products, roots.
-/
namespace Go.Proofs.YtebgfelbffgnbaaGreatDoor
open Go.RowKit F Flow
set_option linter.unusedVariables false
attribute [local go_sem] eql_elem

theorem redu_lo1 (a : Int) : redu 1 (lo a) = redu 1 a := by unfold redu; rw [if_pos rfl, if_pos rfl, lo_lo]
theorem add_lo1 (a b : Int) : add 1 (lo a) (lo b) = add 1 a b := by unfold add; rw [redu_lo1, redu_lo1]
theorem sub_lo1 (a b : Int) : sub 1 (lo a) (lo b) = sub 1 a b := by unfold sub; rw [redu_lo1, redu_lo1]
theorem mul_lo1 (a b : Int) : mul 1 (lo a) (lo b) = mul 1 a b := by unfold mul; rw [redu_lo1, redu_lo1]
theorem neg_lo1 (a : Int) : neg 1 (lo a) = neg 1 a := by unfold neg; rw [redu_lo1]
theorem gadd_below (a b : Int) (h0 : 0 ≤ a) (h1 : a < 18446744073709551616) (h2 : 0 ≤ b) (h3 : b < 18446744073709551616) (w : World) :
    Calls Tryz.prog 119 #[.int .u64 a, .int .u64 b] w fun e w' => e = .returned (.int .u64 (add 1 a b)) ∧ Below w.heap.size w w' :=
  (gadd_any a b h0 h1 h2 h3 w).mono fun _ _ ⟨he, hw⟩ => ⟨he, below_of_same hw⟩
theorem gsub_below (a b : Int) (h0 : 0 ≤ a) (h1 : a < 18446744073709551616) (h2 : 0 ≤ b) (h3 : b < 18446744073709551616) (w : World) :
    Calls Tryz.prog 129 #[.int .u64 a, .int .u64 b] w fun e w' => e = .returned (.int .u64 (sub 1 a b)) ∧ Below w.heap.size w w' :=
  (gsub_any a b h0 h1 h2 h3 w).mono fun _ _ ⟨he, hw⟩ => ⟨he, below_of_same hw⟩
theorem gneg_below (a : Int) (h0 : 0 ≤ a) (h1 : a < 18446744073709551616) (w : World) :
    Calls Tryz.prog 141 #[.int .u64 a] w fun e w' => e = .returned (.int .u64 (neg 1 a)) ∧ Below w.heap.size w w' :=
  (gneg_any a h0 h1 w).mono fun _ _ ⟨he, hw⟩ => ⟨he, below_of_same hw⟩
theorem gof_below (a : Int) (h0 : 0 ≤ a) (h1 : a < 18446744073709551616) (w : World) :
    Calls Tryz.prog 105 #[.int .u64 a] w fun e w' => e = .returned (.int .u64 (redu 1 a)) ∧ Below w.heap.size w w' :=
  (gof_any a h0 h1 w).mono fun _ _ ⟨he, hw⟩ => ⟨he, below_of_same hw⟩

theorem fadd_one (a b : Int) (w : World) :
    Calls Tryz.prog 82 #[.int .u8 1, .agg #[.int .u64 (lo a), .int .u64 (hi a)], .agg #[.int .u64 (lo b), .int .u64 (hi b)]] w fun e w' => e = .returned (.agg #[.int .u64 (lo (add 1 a b)), .int .u64 (hi (add 1 a b))]) ∧ Below w.heap.size w w' := by
  have h := gadd_below (lo a) (lo b) (lo_nonneg a) (lo_lt a) (lo_nonneg b) (lo_lt b)
  rw [add_lo1 a b] at h
  have hr := add_bound 1 a b
  rw [M1] at hr
  rw [lo_of_lt hr.1 (by omega), hi_of_lt hr.1 (by omega)]
  generalize add 1 a b = z at *
  clear hr
  replace h := Lib.hid h
  go_enter Tryz.func82, Tryz.ntmps82
  go_wp2_with fail
  refine name_calls (fun w1 => Below w.heap.size w w1 ∧ w1.heap[w.heap.size]? = some (.cells #[.int .u64 (lo a), .int .u64 (hi a)] 28 (0, 0)) ∧ w1.heap[w.heap.size + 1]? = some (.cells #[.int .u64 (lo b), .int .u64 (hi b)] 28 (0, 0)) ∧ w1.heap[w.heap.size + 1 + 1]? = some (.cells #[.int .u64 0, .int .u64 0] 28 (0, 0)))
    ⟨(((Below.refl _ _).alloc (Nat.le_refl _) _).alloc (by simp) _).alloc (by simp; omega) _, alloc_keeps (alloc_keeps (alloc_at rfl)), alloc_keeps (alloc_at (by simp)), alloc_at (by simp)⟩ ?_
  rintro w1 ⟨b1, k0, k1, k2⟩
  refine call_then (h.out _) ?_
  intro w2 hw2
  replace b1 := below_next b1 b1.size hw2
  replace k2 := keeps hw2 k2
  clear hw2 k0 k1
  obtain ⟨c0, d0, f0, g0⟩ := blk2 k2
  go_wp2
  obtain ⟨c2, d2, _, _⟩ := blk2 (store2 (u := .int .u64 z) (v := .int .u64 0) k2)
  exact bodyPost_ret (v := .agg #[.int .u64 z, .int .u64 0]) (by simp [results, Tryz.results82, go_sem, c2, d2]) rfl ⟨rfl, below_store2 b1 (by omega)⟩
theorem fadd_two (a b : Int) (a0 : 0 ≤ a) (a1 : a < 340282366920938463463374607431768211456) (b0 : 0 ≤ b) (b1 : b < 340282366920938463463374607431768211456) (w : World) :
    Calls Tryz.prog 82 #[.int .u8 2, .agg #[.int .u64 (lo a), .int .u64 (hi a)], .agg #[.int .u64 (lo b), .int .u64 (hi b)]] w fun e w' => e = .returned (.agg #[.int .u64 (lo (add 2 a b)), .int .u64 (hi (add 2 a b))]) ∧ Below w.heap.size w w' := by
  have h := Lib.hid (wadd_any a b a0 a1 b0 b1)
  clear a0 a1 b0 b1
  go_enter Tryz.func82, Tryz.ntmps82
  go_wp2_with fail
  refine name_calls (fun w1 => Below w.heap.size w w1 ∧ w1.heap[w.heap.size]? = some (.cells #[.int .u64 (lo a), .int .u64 (hi a)] 28 (0, 0)) ∧ w1.heap[w.heap.size + 1]? = some (.cells #[.int .u64 (lo b), .int .u64 (hi b)] 28 (0, 0)) ∧ w1.heap[w.heap.size + 1 + 1]? = some (.cells #[.int .u64 0, .int .u64 0] 28 (0, 0)))
    ⟨(((Below.refl _ _).alloc (Nat.le_refl _) _).alloc (by simp) _).alloc (by simp; omega) _, alloc_keeps (alloc_keeps (alloc_at rfl)), alloc_keeps (alloc_at (by simp)), alloc_at (by simp)⟩ ?_
  rintro w1 ⟨b1, k0, k1, k2⟩
  refine call_then (h.out _) ?_
  intro w2 hw2
  replace b1 := below_next b1 b1.size hw2
  replace k2 := keeps hw2 k2
  clear hw2 k0 k1
  obtain ⟨c0, d0, f0, g0⟩ := blk2 k2
  go_wp2
  obtain ⟨c2, d2, _, _⟩ := blk2 (store2 (u := .int .u64 (lo (add 2 a b))) (v := .int .u64 (hi (add 2 a b))) k2)
  exact bodyPost_ret (v := .agg #[.int .u64 (lo (add 2 a b)), .int .u64 (hi (add 2 a b))]) (by simp [results, Tryz.results82, go_sem, c2, d2]) rfl ⟨rfl, below_store2 b1 (by omega)⟩
theorem fsub_one (a b : Int) (w : World) :
    Calls Tryz.prog 90 #[.int .u8 1, .agg #[.int .u64 (lo a), .int .u64 (hi a)], .agg #[.int .u64 (lo b), .int .u64 (hi b)]] w fun e w' => e = .returned (.agg #[.int .u64 (lo (sub 1 a b)), .int .u64 (hi (sub 1 a b))]) ∧ Below w.heap.size w w' := by
  have h := gsub_below (lo a) (lo b) (lo_nonneg a) (lo_lt a) (lo_nonneg b) (lo_lt b)
  rw [sub_lo1 a b] at h
  have hr := sub_bound 1 a b
  rw [M1] at hr
  rw [lo_of_lt hr.1 (by omega), hi_of_lt hr.1 (by omega)]
  generalize sub 1 a b = z at *
  clear hr
  replace h := Lib.hid h
  go_enter Tryz.func90, Tryz.ntmps90
  go_wp2_with fail
  refine name_calls (fun w1 => Below w.heap.size w w1 ∧ w1.heap[w.heap.size]? = some (.cells #[.int .u64 (lo a), .int .u64 (hi a)] 28 (0, 0)) ∧ w1.heap[w.heap.size + 1]? = some (.cells #[.int .u64 (lo b), .int .u64 (hi b)] 28 (0, 0)) ∧ w1.heap[w.heap.size + 1 + 1]? = some (.cells #[.int .u64 0, .int .u64 0] 28 (0, 0)))
    ⟨(((Below.refl _ _).alloc (Nat.le_refl _) _).alloc (by simp) _).alloc (by simp; omega) _, alloc_keeps (alloc_keeps (alloc_at rfl)), alloc_keeps (alloc_at (by simp)), alloc_at (by simp)⟩ ?_
  rintro w1 ⟨b1, k0, k1, k2⟩
  refine call_then (h.out _) ?_
  intro w2 hw2
  replace b1 := below_next b1 b1.size hw2
  replace k2 := keeps hw2 k2
  clear hw2 k0 k1
  obtain ⟨c0, d0, f0, g0⟩ := blk2 k2
  go_wp2
  obtain ⟨c2, d2, _, _⟩ := blk2 (store2 (u := .int .u64 z) (v := .int .u64 0) k2)
  exact bodyPost_ret (v := .agg #[.int .u64 z, .int .u64 0]) (by simp [results, Tryz.results90, go_sem, c2, d2]) rfl ⟨rfl, below_store2 b1 (by omega)⟩
theorem fsub_two (a b : Int) (a0 : 0 ≤ a) (a1 : a < 340282366920938463463374607431768211456) (b0 : 0 ≤ b) (b1 : b < 340282366920938463463374607431768211456) (w : World) :
    Calls Tryz.prog 90 #[.int .u8 2, .agg #[.int .u64 (lo a), .int .u64 (hi a)], .agg #[.int .u64 (lo b), .int .u64 (hi b)]] w fun e w' => e = .returned (.agg #[.int .u64 (lo (sub 2 a b)), .int .u64 (hi (sub 2 a b))]) ∧ Below w.heap.size w w' := by
  have h := Lib.hid (wsub_any a b a0 a1 b0 b1)
  clear a0 a1 b0 b1
  go_enter Tryz.func90, Tryz.ntmps90
  go_wp2_with fail
  refine name_calls (fun w1 => Below w.heap.size w w1 ∧ w1.heap[w.heap.size]? = some (.cells #[.int .u64 (lo a), .int .u64 (hi a)] 28 (0, 0)) ∧ w1.heap[w.heap.size + 1]? = some (.cells #[.int .u64 (lo b), .int .u64 (hi b)] 28 (0, 0)) ∧ w1.heap[w.heap.size + 1 + 1]? = some (.cells #[.int .u64 0, .int .u64 0] 28 (0, 0)))
    ⟨(((Below.refl _ _).alloc (Nat.le_refl _) _).alloc (by simp) _).alloc (by simp; omega) _, alloc_keeps (alloc_keeps (alloc_at rfl)), alloc_keeps (alloc_at (by simp)), alloc_at (by simp)⟩ ?_
  rintro w1 ⟨b1, k0, k1, k2⟩
  refine call_then (h.out _) ?_
  intro w2 hw2
  replace b1 := below_next b1 b1.size hw2
  replace k2 := keeps hw2 k2
  clear hw2 k0 k1
  obtain ⟨c0, d0, f0, g0⟩ := blk2 k2
  go_wp2
  obtain ⟨c2, d2, _, _⟩ := blk2 (store2 (u := .int .u64 (lo (sub 2 a b))) (v := .int .u64 (hi (sub 2 a b))) k2)
  exact bodyPost_ret (v := .agg #[.int .u64 (lo (sub 2 a b)), .int .u64 (hi (sub 2 a b))]) (by simp [results, Tryz.results90, go_sem, c2, d2]) rfl ⟨rfl, below_store2 b1 (by omega)⟩
theorem fmul_one (a b : Int) (w : World) :
    Calls Tryz.prog 87 #[.int .u8 1, .agg #[.int .u64 (lo a), .int .u64 (hi a)], .agg #[.int .u64 (lo b), .int .u64 (hi b)]] w fun e w' => e = .returned (.agg #[.int .u64 (lo (mul 1 a b)), .int .u64 (hi (mul 1 a b))]) ∧ Below w.heap.size w w' := by
  have h := gmul_any (lo a) (lo b) (lo_nonneg a) (lo_lt a) (lo_nonneg b) (lo_lt b)
  rw [mul_lo1 a b] at h
  have hr := mul_bound 1 a b
  rw [M1] at hr
  rw [lo_of_lt hr.1 (by omega), hi_of_lt hr.1 (by omega)]
  generalize mul 1 a b = z at *
  clear hr
  replace h := Lib.hid h
  go_enter Tryz.func87, Tryz.ntmps87
  go_wp2_with fail
  refine name_calls (fun w1 => Below w.heap.size w w1 ∧ w1.heap[w.heap.size]? = some (.cells #[.int .u64 (lo a), .int .u64 (hi a)] 28 (0, 0)) ∧ w1.heap[w.heap.size + 1]? = some (.cells #[.int .u64 (lo b), .int .u64 (hi b)] 28 (0, 0)) ∧ w1.heap[w.heap.size + 1 + 1]? = some (.cells #[.int .u64 0, .int .u64 0] 28 (0, 0)))
    ⟨(((Below.refl _ _).alloc (Nat.le_refl _) _).alloc (by simp) _).alloc (by simp; omega) _, alloc_keeps (alloc_keeps (alloc_at rfl)), alloc_keeps (alloc_at (by simp)), alloc_at (by simp)⟩ ?_
  rintro w1 ⟨b1, k0, k1, k2⟩
  refine call_then (h.out _) ?_
  intro w2 hw2
  replace b1 := below_next b1 b1.size hw2
  replace k2 := keeps hw2 k2
  clear hw2 k0 k1
  obtain ⟨c0, d0, f0, g0⟩ := blk2 k2
  go_wp2
  obtain ⟨c2, d2, _, _⟩ := blk2 (store2 (u := .int .u64 z) (v := .int .u64 0) k2)
  exact bodyPost_ret (v := .agg #[.int .u64 z, .int .u64 0]) (by simp [results, Tryz.results87, go_sem, c2, d2]) rfl ⟨rfl, below_store2 b1 (by omega)⟩
theorem fmul_two (a b : Int) (a0 : 0 ≤ a) (a1 : a < 340282366920938463463374607431768211456) (b0 : 0 ≤ b) (b1 : b < 340282366920938463463374607431768211456) (w : World) :
    Calls Tryz.prog 87 #[.int .u8 2, .agg #[.int .u64 (lo a), .int .u64 (hi a)], .agg #[.int .u64 (lo b), .int .u64 (hi b)]] w fun e w' => e = .returned (.agg #[.int .u64 (lo (mul 2 a b)), .int .u64 (hi (mul 2 a b))]) ∧ Below w.heap.size w w' := by
  have h := Lib.hid (wmul_any a b a0 a1 b0 b1)
  clear a0 a1 b0 b1
  go_enter Tryz.func87, Tryz.ntmps87
  go_wp2_with fail
  refine name_calls (fun w1 => Below w.heap.size w w1 ∧ w1.heap[w.heap.size]? = some (.cells #[.int .u64 (lo a), .int .u64 (hi a)] 28 (0, 0)) ∧ w1.heap[w.heap.size + 1]? = some (.cells #[.int .u64 (lo b), .int .u64 (hi b)] 28 (0, 0)) ∧ w1.heap[w.heap.size + 1 + 1]? = some (.cells #[.int .u64 0, .int .u64 0] 28 (0, 0)))
    ⟨(((Below.refl _ _).alloc (Nat.le_refl _) _).alloc (by simp) _).alloc (by simp; omega) _, alloc_keeps (alloc_keeps (alloc_at rfl)), alloc_keeps (alloc_at (by simp)), alloc_at (by simp)⟩ ?_
  rintro w1 ⟨b1, k0, k1, k2⟩
  refine call_then (h.out _) ?_
  intro w2 hw2
  replace b1 := below_next b1 b1.size hw2
  replace k2 := keeps hw2 k2
  clear hw2 k0 k1
  obtain ⟨c0, d0, f0, g0⟩ := blk2 k2
  go_wp2
  obtain ⟨c2, d2, _, _⟩ := blk2 (store2 (u := .int .u64 (lo (mul 2 a b))) (v := .int .u64 (hi (mul 2 a b))) k2)
  exact bodyPost_ret (v := .agg #[.int .u64 (lo (mul 2 a b)), .int .u64 (hi (mul 2 a b))]) (by simp [results, Tryz.results87, go_sem, c2, d2]) rfl ⟨rfl, below_store2 b1 (by omega)⟩
end Go.Proofs.YtebgfelbffgnbaaGreatDoor

/-
  Contracts of package field: the rest of one element's.
-/
namespace Go.Proofs.YtebgfelbffgnbaaGreatDoor
open Go.RowKit F Flow
set_option linter.unusedVariables false
attribute [local go_sem] eql_elem

theorem fneg_one (a : Int) (w : World) :
    Calls Tryz.prog 108 #[.int .u8 1, .agg #[.int .u64 (lo a), .int .u64 (hi a)]] w fun e w' => e = .returned (.agg #[.int .u64 (lo (neg 1 a)), .int .u64 (hi (neg 1 a))]) ∧ Below w.heap.size w w' := by
  have h := gneg_below (lo a) (lo_nonneg a) (lo_lt a)
  rw [neg_lo1 a] at h
  have hr := neg_bound 1 a
  rw [M1] at hr
  rw [lo_of_lt hr.1 (by omega), hi_of_lt hr.1 (by omega)]
  generalize neg 1 a = z at *
  clear hr
  replace h := Lib.hid h
  go_enter Tryz.func108, Tryz.ntmps108
  go_wp2_with fail
  refine name_calls (fun w1 => Below w.heap.size w w1 ∧ w1.heap[w.heap.size]? = some (.cells #[.int .u64 (lo a), .int .u64 (hi a)] 28 (0, 0)) ∧ w1.heap[w.heap.size + 1]? = some (.cells #[.int .u64 0, .int .u64 0] 28 (0, 0)))
    ⟨((Below.refl _ _).alloc (Nat.le_refl _) _).alloc (by simp) _, alloc_keeps (alloc_at rfl), alloc_at (by simp)⟩ ?_
  rintro w1 ⟨b1, k0, k1⟩
  refine call_then (h.out _) ?_
  intro w2 hw2
  replace b1 := below_next b1 b1.size hw2
  replace k1 := keeps hw2 k1
  clear hw2 k0
  obtain ⟨c0, d0, f0, g0⟩ := blk2 k1
  go_wp2
  obtain ⟨c2, d2, _, _⟩ := blk2 (store2 (u := .int .u64 z) (v := .int .u64 0) k1)
  exact bodyPost_ret (v := .agg #[.int .u64 z, .int .u64 0]) (by simp [results, Tryz.results108, go_sem, c2, d2]) rfl ⟨rfl, below_store2 b1 (by omega)⟩
theorem fneg_two (a : Int) (a0 : 0 ≤ a) (a1 : a < 340282366920938463463374607431768211456) (w : World) :
    Calls Tryz.prog 108 #[.int .u8 2, .agg #[.int .u64 (lo a), .int .u64 (hi a)]] w fun e w' => e = .returned (.agg #[.int .u64 (lo (neg 2 a)), .int .u64 (hi (neg 2 a))]) ∧ Below w.heap.size w w' := by
  have h := Lib.hid (wneg_any a a0 a1)
  clear a0 a1
  go_enter Tryz.func108, Tryz.ntmps108
  go_wp2_with fail
  refine name_calls (fun w1 => Below w.heap.size w w1 ∧ w1.heap[w.heap.size]? = some (.cells #[.int .u64 (lo a), .int .u64 (hi a)] 28 (0, 0)) ∧ w1.heap[w.heap.size + 1]? = some (.cells #[.int .u64 0, .int .u64 0] 28 (0, 0)))
    ⟨((Below.refl _ _).alloc (Nat.le_refl _) _).alloc (by simp) _, alloc_keeps (alloc_at rfl), alloc_at (by simp)⟩ ?_
  rintro w1 ⟨b1, k0, k1⟩
  refine call_then (h.out _) ?_
  intro w2 hw2
  replace b1 := below_next b1 b1.size hw2
  replace k1 := keeps hw2 k1
  clear hw2 k0
  obtain ⟨c0, d0, f0, g0⟩ := blk2 k1
  go_wp2
  obtain ⟨c2, d2, _, _⟩ := blk2 (store2 (u := .int .u64 (lo (neg 2 a))) (v := .int .u64 (hi (neg 2 a))) k1)
  exact bodyPost_ret (v := .agg #[.int .u64 (lo (neg 2 a)), .int .u64 (hi (neg 2 a))]) (by simp [results, Tryz.results108, go_sem, c2, d2]) rfl ⟨rfl, below_store2 b1 (by omega)⟩
theorem fof_one (n : Int) (n0 : 0 ≤ n) (n1 : n < 18446744073709551616) (w : World) :
    Calls Tryz.prog 54 #[.int .u8 1, .int .u64 n] w fun e w' => e = .returned (.agg #[.int .u64 (lo (redu 1 n)), .int .u64 (hi (redu 1 n))]) ∧ Below w.heap.size w w' := by
  have h := gof_below n n0 n1
  have hr := redu1_bound n
  rw [lo_of_lt hr.1 (by omega), hi_of_lt hr.1 (by omega)]
  generalize redu 1 n = z at *
  clear hr
  replace h := Lib.hid h
  go_enter Tryz.func54, Tryz.ntmps54
  go_wp2_with fail
  refine name_calls (fun w1 => Below w.heap.size w w1 ∧ w1.heap[w.heap.size]? = some (.cells #[.int .u64 0, .int .u64 0] 28 (0, 0)))
    ⟨(Below.refl _ _).alloc (Nat.le_refl _) _, alloc_at rfl⟩ ?_
  rintro w1 ⟨b1, k1⟩
  have k0 := k1
  refine call_then (h.out _) ?_
  intro w2 hw2
  replace b1 := below_next b1 b1.size hw2
  replace k1 := keeps hw2 k1
  clear hw2 k0
  obtain ⟨c0, d0, f0, g0⟩ := blk2 k1
  go_wp2
  obtain ⟨c2, d2, _, _⟩ := blk2 (store2 (u := .int .u64 z) (v := .int .u64 0) k1)
  exact bodyPost_ret (v := .agg #[.int .u64 z, .int .u64 0]) (by simp [results, Tryz.results54, go_sem, c2, d2]) rfl ⟨rfl, below_store2 b1 (by omega)⟩
theorem fof_two (n : Int) (n0 : 0 ≤ n) (n1 : n < 18446744073709551616) (w : World) :
    Calls Tryz.prog 54 #[.int .u8 2, .int .u64 n] w fun e w' => e = .returned (.agg #[.int .u64 (lo (redu 2 n)), .int .u64 (hi (redu 2 n))]) ∧ Below w.heap.size w w' := by
  have h := wof_any n n0 (by omega)
  rw [lo_of_lt n0 n1, hi_of_lt n0 n1] at h
  generalize redu 2 n = z at *
  replace h := Lib.hid h
  go_enter Tryz.func54, Tryz.ntmps54
  go_wp2_with fail
  refine name_calls (fun w1 => Below w.heap.size w w1 ∧ w1.heap[w.heap.size]? = some (.cells #[.int .u64 0, .int .u64 0] 28 (0, 0)))
    ⟨(Below.refl _ _).alloc (Nat.le_refl _) _, alloc_at rfl⟩ ?_
  rintro w1 ⟨b1, k1⟩
  have k0 := k1
  refine call_then (h.out _) ?_
  intro w2 hw2
  replace b1 := below_next b1 b1.size hw2
  replace k1 := keeps hw2 k1
  clear hw2 k0
  obtain ⟨c0, d0, f0, g0⟩ := blk2 k1
  go_wp2
  obtain ⟨c2, d2, _, _⟩ := blk2 (store2 (u := .int .u64 (lo z)) (v := .int .u64 (hi z)) k1)
  exact bodyPost_ret (v := .agg #[.int .u64 (lo z), .int .u64 (hi z)]) (by simp [results, Tryz.results54, go_sem, c2, d2]) rfl ⟨rfl, below_store2 b1 (by omega)⟩
theorem fone_any (f : Int) (hf : f = 1 ∨ f = 2) (w : World) :
    Calls Tryz.prog 53 #[.int .u8 f] w fun e w' => e = .returned (.agg #[.int .u64 1, .int .u64 0]) ∧ Below w.heap.size w w' := by
  have h : ∀ w, Calls Tryz.prog 54 #[.int .u8 f, .int .u64 1] w fun e w' => e = .returned (.agg #[.int .u64 1, .int .u64 0]) ∧ Below w.heap.size w w' := by
    intro w
    rcases hf with rfl | rfl
    · exact fof_one 1 (by omega) (by omega) w
    · exact fof_two 1 (by omega) (by omega) w
  clear hf
  replace h := Lib.hid h
  go_enter Tryz.func53, Tryz.ntmps53
  go_wp2_with fail
  refine name_calls (fun w1 => Below w.heap.size w w1 ∧ w1.heap[w.heap.size]? = some (.cells #[.int .u64 0, .int .u64 0] 28 (0, 0)))
    ⟨(Below.refl _ _).alloc (Nat.le_refl _) _, alloc_at rfl⟩ ?_
  rintro w1 ⟨b1, k1⟩
  have k0 := k1
  refine call_then (h.out _) ?_
  intro w2 hw2
  replace b1 := below_next b1 b1.size hw2
  replace k1 := keeps hw2 k1
  clear hw2 k0
  obtain ⟨c0, d0, f0, g0⟩ := blk2 k1
  go_wp2
  obtain ⟨c2, d2, _, _⟩ := blk2 (store2 (u := .int .u64 1) (v := .int .u64 0) k1)
  exact bodyPost_ret (v := .agg #[.int .u64 1, .int .u64 0]) (by simp [results, Tryz.results53, go_sem, c2, d2]) rfl ⟨rfl, below_store2 b1 (by omega)⟩
theorem fin_one (a : Int) (w : World) :
    Calls Tryz.prog 163 #[.int .u8 1, .agg #[.int .u64 (lo a), .int .u64 (hi a)]] w fun e w' => e = .returned (.bool (decide (a < M 1) && decide (0 ≤ a))) ∧ Below w.heap.size w w' := by
  by_cases hh : hi a = 0
  · have hd : (decide (a < M 1) && decide (0 ≤ a)) = decide (lo a < 18446744069414584321) := by
      have e : a = lo a := by unfold lo hi at *; omega
      have := lo_nonneg a
      rw [M1, ← e]
      have h0 : 0 ≤ a := by omega
      simp [h0]
    rw [hd]
    generalize lo a = x at *
    generalize hi a = y at *
    subst hh
    go_enter Tryz.func163, Tryz.ntmps163
    go_wp2_with fail
    refine name_calls (fun w1 => Below w.heap.size w w1) ((Below.refl _ _).alloc (Nat.le_refl _) _) ?_
    intro w1 b1
    refine call_then ((gin_any x _).mono fun _ _ ⟨he, hw⟩ => ⟨he, below_of_same hw⟩) ?_
    intro w2 hw2
    go_wp2
    go_ret
    exact ⟨rfl, below_next b1 b1.size hw2⟩
  · have hd : (decide (a < M 1) && decide (0 ≤ a)) = false := by
      rw [M1]; unfold hi at hh
      by_cases h0 : 0 ≤ a
      · have : ¬ a < 18446744069414584321 := by omega
        simp [this]
      · simp [h0]
    rw [hd]
    have hc : (hi a == 0) = false := by simpa using hh
    clear hh hd
    go_enter Tryz.func163, Tryz.ntmps163
    go_wp2
    go_ret
    exact ⟨rfl, (Below.refl _ _).alloc (Nat.le_refl _) _⟩
theorem fin_two (a : Int) (w : World) :
    Calls Tryz.prog 163 #[.int .u8 2, .agg #[.int .u64 (lo a), .int .u64 (hi a)]] w fun e w' => e = .returned (.bool (decide (a < M 2))) ∧ Below w.heap.size w w' := by
  go_enter Tryz.func163, Tryz.ntmps163
  go_wp2_with fail
  refine name_calls (fun w1 => Below w.heap.size w w1) ((Below.refl _ _).alloc (Nat.le_refl _) _) ?_
  intro w1 b1
  refine call_then (win_any a _) ?_
  intro w2 hw2
  go_wp2
  go_ret
  exact ⟨rfl, below_next b1 b1.size hw2⟩
theorem fvalid_one (w : World) : Calls Tryz.prog 75 #[.int .u8 1] w fun e w' => e = .returned (.bool true) ∧ Below w.heap.size w w' := by
  go_enter Tryz.func75, Tryz.ntmps75
  go_wp2
  go_ret
  exact ⟨rfl, Below.refl _ _⟩
theorem fvalid_two (w : World) : Calls Tryz.prog 75 #[.int .u8 2] w fun e w' => e = .returned (.bool true) ∧ Below w.heap.size w w' := by
  go_enter Tryz.func75, Tryz.ntmps75
  go_wp2
  go_ret
  exact ⟨rfl, Below.refl _ _⟩
theorem finv_one (a v c : Int) (h : ∀ w, Calls Tryz.prog 115 #[.int .u64 (lo a)] w fun e w' => e = .returned (.tuple #[.int .u64 v, .int .i64 c]) ∧ Below w.heap.size w w') (w : World) :
    Calls Tryz.prog 78 #[.int .u8 1, .agg #[.int .u64 (lo a), .int .u64 (hi a)]] w fun e w' => e = .returned (.tuple #[.agg #[.int .u64 v, .int .u64 0], .int .i64 c]) ∧ Below w.heap.size w w' := by
  replace h := Lib.hid h
  go_enter Tryz.func78, Tryz.ntmps78
  go_wp2_with fail
  refine name_calls (fun w1 => Below w.heap.size w w1 ∧ w1.heap[w.heap.size]? = some (.cells #[.int .u64 (lo a), .int .u64 (hi a)] 28 (0, 0)) ∧ w1.heap[w.heap.size + 1]? = some (.cells #[.int .u64 0, .int .u64 0] 28 (0, 0)))
    ⟨((Below.refl _ _).alloc (Nat.le_refl _) _).alloc (by simp) _, alloc_keeps (alloc_at rfl), alloc_at (by simp)⟩ ?_
  rintro w1 ⟨b1, k0, k1⟩
  refine call_then (h.out _) ?_
  intro w2 hw2
  replace b1 := below_next b1 b1.size hw2
  replace k1 := keeps hw2 k1
  clear hw2
  obtain ⟨c0, d0, f0, g0⟩ := blk2 k1
  go_wp2
  obtain ⟨c2, d2, _, _⟩ := blk2 (store2 (u := .int .u64 v) (v := .int .u64 0) k1)
  exact bodyPost_ret (v := .tuple #[.agg #[.int .u64 v, .int .u64 0], .int .i64 c]) (by simp [results, Tryz.results78, go_sem, c2, d2]) rfl ⟨rfl, below_store2 b1 (by omega)⟩
theorem finv_two (a x y c : Int) (h : ∀ w, Calls Tryz.prog 116 #[.agg #[.int .u64 (lo a), .int .u64 (hi a)]] w fun e w' => e = .returned (.tuple #[.agg #[.int .u64 x, .int .u64 y], .int .i64 c]) ∧ Below w.heap.size w w') (w : World) :
    Calls Tryz.prog 78 #[.int .u8 2, .agg #[.int .u64 (lo a), .int .u64 (hi a)]] w fun e w' => e = .returned (.tuple #[.agg #[.int .u64 x, .int .u64 y], .int .i64 c]) ∧ Below w.heap.size w w' := by
  replace h := Lib.hid h
  go_enter Tryz.func78, Tryz.ntmps78
  go_wp2_with fail
  refine name_calls (fun w1 => Below w.heap.size w w1 ∧ w1.heap[w.heap.size]? = some (.cells #[.int .u64 (lo a), .int .u64 (hi a)] 28 (0, 0)) ∧ w1.heap[w.heap.size + 1]? = some (.cells #[.int .u64 0, .int .u64 0] 28 (0, 0)))
    ⟨((Below.refl _ _).alloc (Nat.le_refl _) _).alloc (by simp) _, alloc_keeps (alloc_at rfl), alloc_at (by simp)⟩ ?_
  rintro w1 ⟨b1, k0, k1⟩
  refine call_then (h.out _) ?_
  intro w2 hw2
  replace b1 := below_next b1 b1.size hw2
  replace k1 := keeps hw2 k1
  clear hw2
  obtain ⟨c0, d0, f0, g0⟩ := blk2 k1
  go_wp2
  obtain ⟨c2, d2, _, _⟩ := blk2 (store2 (u := .int .u64 x) (v := .int .u64 y) k1)
  exact bodyPost_ret (v := .tuple #[.agg #[.int .u64 x, .int .u64 y], .int .i64 c]) (by simp [results, Tryz.results78, go_sem, c2, d2]) rfl ⟨rfl, below_store2 b1 (by omega)⟩
theorem froot_one (log v c : Int) (h : ∀ w, Calls Tryz.prog 113 #[.int .i64 log] w fun e w' => e = .returned (.tuple #[.int .u64 v, .int .i64 c]) ∧ Below w.heap.size w w') (w : World) :
    Calls Tryz.prog 76 #[.int .u8 1, .int .i64 log] w fun e w' => e = .returned (.tuple #[.agg #[.int .u64 v, .int .u64 0], .int .i64 c]) ∧ Below w.heap.size w w' := by
  replace h := Lib.hid h
  go_enter Tryz.func76, Tryz.ntmps76
  go_wp2_with fail
  refine name_calls (fun w1 => Below w.heap.size w w1 ∧ w1.heap[w.heap.size]? = some (.cells #[.int .u64 0, .int .u64 0] 28 (0, 0)))
    ⟨(Below.refl _ _).alloc (Nat.le_refl _) _, alloc_at rfl⟩ ?_
  rintro w1 ⟨b1, k1⟩
  have k0 := k1
  refine call_then (h.out _) ?_
  intro w2 hw2
  replace b1 := below_next b1 b1.size hw2
  replace k1 := keeps hw2 k1
  clear hw2
  obtain ⟨c0, d0, f0, g0⟩ := blk2 k1
  go_wp2
  obtain ⟨c2, d2, _, _⟩ := blk2 (store2 (u := .int .u64 v) (v := .int .u64 0) k1)
  exact bodyPost_ret (v := .tuple #[.agg #[.int .u64 v, .int .u64 0], .int .i64 c]) (by simp [results, Tryz.results76, go_sem, c2, d2]) rfl ⟨rfl, below_store2 b1 (by omega)⟩
theorem froot_two (log x y c : Int) (h : ∀ w, Calls Tryz.prog 114 #[.int .i64 log] w fun e w' => e = .returned (.tuple #[.agg #[.int .u64 x, .int .u64 y], .int .i64 c]) ∧ Below w.heap.size w w') (w : World) :
    Calls Tryz.prog 76 #[.int .u8 2, .int .i64 log] w fun e w' => e = .returned (.tuple #[.agg #[.int .u64 x, .int .u64 y], .int .i64 c]) ∧ Below w.heap.size w w' := by
  replace h := Lib.hid h
  go_enter Tryz.func76, Tryz.ntmps76
  go_wp2_with fail
  refine name_calls (fun w1 => Below w.heap.size w w1 ∧ w1.heap[w.heap.size]? = some (.cells #[.int .u64 0, .int .u64 0] 28 (0, 0)))
    ⟨(Below.refl _ _).alloc (Nat.le_refl _) _, alloc_at rfl⟩ ?_
  rintro w1 ⟨b1, k1⟩
  have k0 := k1
  refine call_then (h.out _) ?_
  intro w2 hw2
  replace b1 := below_next b1 b1.size hw2
  replace k1 := keeps hw2 k1
  clear hw2
  obtain ⟨c0, d0, f0, g0⟩ := blk2 k1
  go_wp2
  obtain ⟨c2, d2, _, _⟩ := blk2 (store2 (u := .int .u64 x) (v := .int .u64 y) k1)
  exact bodyPost_ret (v := .tuple #[.agg #[.int .u64 x, .int .u64 y], .int .i64 c]) (by simp [results, Tryz.results76, go_sem, c2, d2]) rfl ⟨rfl, below_store2 b1 (by omega)⟩
end Go.Proofs.YtebgfelbffgnbaaGreatDoor

/-
  Contracts of package field: the first law's example.
-/
namespace Go.Proofs.YtebgfelbffgnbaaGreatDoor
open Go.RowKit F Flow
set_option linter.unusedVariables false
attribute [local go_sem] eql_elem

end Go.Proofs.YtebgfelbffgnbaaGreatDoor

/-
  Rows of bytes that a call made: kept by what makes new memory alone; read as a string.
-/
namespace Go.Proofs.YtebgfelbffgnbaaGreatDoor
open Go.RowKit Flow

/-- What lies as a string still does where there is new memory beside it. -/
def StrAt (w : World) (v : Value) (s : ByteArray) : Prop :=
  ∃ p n c xs, v = .slice p n c ∧ s = strOfNums xs ∧ xs.length = n ∧ (n = 0 ∧ p = none ∨ ∃ b o, p = some ⟨b, o, none⟩ ∧ ∀ i, i < n → w.cell? ⟨b, o + i, none⟩ = some (.int .u8 (xs.getD i 0)))
theorem StrAt.up {w w' : World} {v : Value} {s : ByteArray} (h : StrAt w v s) (hb : Below w.heap.size w w') : StrAt w' v s := by
  obtain ⟨p, n, c, xs, h1, h2, h3, h4⟩ := h
  refine ⟨p, n, c, xs, h1, h2, h3, h4.imp id ?_⟩
  rintro ⟨b, o, h5, h6⟩
  exact ⟨b, o, h5, fun i hi => (hb.cell (World.block_lt_of_cell? _ _ (h6 i hi))).trans (h6 i hi)⟩
theorem StrAt.conv {P : Program} {w : World} {v : Value} {s : ByteArray} (h : StrAt w v s) {src e dst : TypeId} (hs : P.underlying src = some (.slice e)) (he : P.underlying e = some (.int .u8)) (hd : P.underlying dst = some .string) :
    (convert src dst v).run P w = .ok (.string s) w := by
  obtain ⟨p, n, c, xs, rfl, rfl, h3, ⟨h4, rfl⟩ | ⟨b, o, rfl, h6⟩⟩ := h
  · obtain rfl : xs = [] := List.eq_nil_of_length_eq_zero (by omega)
    exact run_convert_bytes_nil w src e hs he n c dst hd
  · exact run_convert_bytes_arg w src e hs he b o n c xs h3 h6 dst hd
end Go.Proofs.YtebgfelbffgnbaaGreatDoor
