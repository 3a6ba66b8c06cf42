/-
  Contracts of package field: each of the two fields' sums, products, roots.
-/
import Derived.Test.YtnlnbikiocdpdaaDoorGoldRoots
import Derived.Test.YtnlnbikiocdpdaaDoorWideRoots
namespace Go.Proofs.YtnlnbikiocdpdaaDoor
open Go.RowKit F Flow
set_option linter.unusedVariables false
attribute [local go_sem] eql_elem

theorem redu_lo1 (a : Int) : redu 1 (lo a) = redu 1 a := by unfold redu; rw [if_pos rfl, if_pos rfl, lo_lo]
theorem add_lo1 (a b : Int) : add 1 (lo a) (lo b) = add 1 a b := by unfold add; rw [redu_lo1, redu_lo1]
theorem sub_lo1 (a b : Int) : sub 1 (lo a) (lo b) = sub 1 a b := by unfold sub; rw [redu_lo1, redu_lo1]
theorem mul_lo1 (a b : Int) : mul 1 (lo a) (lo b) = mul 1 a b := by unfold mul; rw [redu_lo1, redu_lo1]
theorem neg_lo1 (a : Int) : neg 1 (lo a) = neg 1 a := by unfold neg; rw [redu_lo1]
theorem pow_lo1 (a : Int) (n : Nat) : pow 1 (lo a) n = pow 1 a n := by unfold pow; rw [redu_lo1]
theorem gadd_below (a b : Int) (h0 : 0 ≤ a) (h1 : a < 18446744073709551616) (h2 : 0 ≤ b) (h3 : b < 18446744073709551616) (w : World) :
    Calls Tryd.prog 49 #[.int .u64 a, .int .u64 b] w fun e w' => e = .returned (.int .u64 (add 1 a b)) ∧ Below w.heap.size w w' :=
  (gadd_any a b h0 h1 h2 h3 w).mono fun _ _ ⟨he, hw⟩ => ⟨he, below_of_same hw⟩
theorem gsub_below (a b : Int) (h0 : 0 ≤ a) (h1 : a < 18446744073709551616) (h2 : 0 ≤ b) (h3 : b < 18446744073709551616) (w : World) :
    Calls Tryd.prog 54 #[.int .u64 a, .int .u64 b] w fun e w' => e = .returned (.int .u64 (sub 1 a b)) ∧ Below w.heap.size w w' :=
  (gsub_any a b h0 h1 h2 h3 w).mono fun _ _ ⟨he, hw⟩ => ⟨he, below_of_same hw⟩
theorem gneg_below (a : Int) (h0 : 0 ≤ a) (h1 : a < 18446744073709551616) (w : World) :
    Calls Tryd.prog 66 #[.int .u64 a] w fun e w' => e = .returned (.int .u64 (neg 1 a)) ∧ Below w.heap.size w w' :=
  (gneg_any a h0 h1 w).mono fun _ _ ⟨he, hw⟩ => ⟨he, below_of_same hw⟩
theorem gof_below (a : Int) (h0 : 0 ≤ a) (h1 : a < 18446744073709551616) (w : World) :
    Calls Tryd.prog 45 #[.int .u64 a] w fun e w' => e = .returned (.int .u64 (redu 1 a)) ∧ Below w.heap.size w w' :=
  (gof_any a h0 h1 w).mono fun _ _ ⟨he, hw⟩ => ⟨he, below_of_same hw⟩

theorem fadd_one (a b : Int) (w : World) :
    Calls Tryd.prog 34 #[.int .u8 1, .agg #[.int .u64 (lo a), .int .u64 (hi a)], .agg #[.int .u64 (lo b), .int .u64 (hi b)]] w fun e w' => e = .returned (.agg #[.int .u64 (lo (add 1 a b)), .int .u64 (hi (add 1 a b))]) ∧ Below w.heap.size w w' := by
  have h := gadd_below (lo a) (lo b) (lo_nonneg a) (lo_lt a) (lo_nonneg b) (lo_lt b)
  rw [add_lo1 a b] at h
  have hr := add_bound 1 a b
  rw [M1] at hr
  rw [lo_of_lt hr.1 (by omega), hi_of_lt hr.1 (by omega)]
  generalize add 1 a b = z at *
  clear hr
  replace h := Lib.hid h
  go_enter Tryd.func34, Tryd.ntmps34
  go_wp2_with fail
  refine name_calls (fun w1 => Below w.heap.size w w1 ∧ w1.heap[w.heap.size]? = some (.cells #[.int .u64 (lo a), .int .u64 (hi a)] 34 (0, 0)) ∧ w1.heap[w.heap.size + 1]? = some (.cells #[.int .u64 (lo b), .int .u64 (hi b)] 34 (0, 0)) ∧ w1.heap[w.heap.size + 1 + 1]? = some (.cells #[.int .u64 0, .int .u64 0] 34 (0, 0)))
    ⟨(((Below.refl _ _).alloc (Nat.le_refl _) _).alloc (by simp) _).alloc (by simp; omega) _, alloc_keeps (alloc_keeps (alloc_at rfl)), alloc_keeps (alloc_at (by simp)), alloc_at (by simp)⟩ ?_
  rintro w1 ⟨b1, k0, k1, k2⟩
  refine call_then (h.out _) ?_
  intro w2 hw2
  replace b1 := below_next b1 b1.size hw2
  replace k2 := keeps hw2 k2
  clear hw2 k0 k1
  obtain ⟨c0, d0, f0, g0⟩ := blk2 k2
  go_wp2
  obtain ⟨c2, d2, _, _⟩ := blk2 (store2 (u := .int .u64 z) (v := .int .u64 0) k2)
  exact bodyPost_ret (v := .agg #[.int .u64 z, .int .u64 0]) (by simp [results, Tryd.results34, go_sem, c2, d2]) rfl ⟨rfl, below_store2 b1 (by omega)⟩
theorem fadd_two (a b : Int) (a0 : 0 ≤ a) (a1 : a < 340282366920938463463374607431768211456) (b0 : 0 ≤ b) (b1 : b < 340282366920938463463374607431768211456) (w : World) :
    Calls Tryd.prog 34 #[.int .u8 2, .agg #[.int .u64 (lo a), .int .u64 (hi a)], .agg #[.int .u64 (lo b), .int .u64 (hi b)]] w fun e w' => e = .returned (.agg #[.int .u64 (lo (add 2 a b)), .int .u64 (hi (add 2 a b))]) ∧ Below w.heap.size w w' := by
  have h := Lib.hid (wadd_any a b a0 a1 b0 b1)
  clear a0 a1 b0 b1
  go_enter Tryd.func34, Tryd.ntmps34
  go_wp2_with fail
  refine name_calls (fun w1 => Below w.heap.size w w1 ∧ w1.heap[w.heap.size]? = some (.cells #[.int .u64 (lo a), .int .u64 (hi a)] 34 (0, 0)) ∧ w1.heap[w.heap.size + 1]? = some (.cells #[.int .u64 (lo b), .int .u64 (hi b)] 34 (0, 0)) ∧ w1.heap[w.heap.size + 1 + 1]? = some (.cells #[.int .u64 0, .int .u64 0] 34 (0, 0)))
    ⟨(((Below.refl _ _).alloc (Nat.le_refl _) _).alloc (by simp) _).alloc (by simp; omega) _, alloc_keeps (alloc_keeps (alloc_at rfl)), alloc_keeps (alloc_at (by simp)), alloc_at (by simp)⟩ ?_
  rintro w1 ⟨b1, k0, k1, k2⟩
  refine call_then (h.out _) ?_
  intro w2 hw2
  replace b1 := below_next b1 b1.size hw2
  replace k2 := keeps hw2 k2
  clear hw2 k0 k1
  obtain ⟨c0, d0, f0, g0⟩ := blk2 k2
  go_wp2
  obtain ⟨c2, d2, _, _⟩ := blk2 (store2 (u := .int .u64 (lo (add 2 a b))) (v := .int .u64 (hi (add 2 a b))) k2)
  exact bodyPost_ret (v := .agg #[.int .u64 (lo (add 2 a b)), .int .u64 (hi (add 2 a b))]) (by simp [results, Tryd.results34, go_sem, c2, d2]) rfl ⟨rfl, below_store2 b1 (by omega)⟩
theorem fsub_one (a b : Int) (w : World) :
    Calls Tryd.prog 37 #[.int .u8 1, .agg #[.int .u64 (lo a), .int .u64 (hi a)], .agg #[.int .u64 (lo b), .int .u64 (hi b)]] w fun e w' => e = .returned (.agg #[.int .u64 (lo (sub 1 a b)), .int .u64 (hi (sub 1 a b))]) ∧ Below w.heap.size w w' := by
  have h := gsub_below (lo a) (lo b) (lo_nonneg a) (lo_lt a) (lo_nonneg b) (lo_lt b)
  rw [sub_lo1 a b] at h
  have hr := sub_bound 1 a b
  rw [M1] at hr
  rw [lo_of_lt hr.1 (by omega), hi_of_lt hr.1 (by omega)]
  generalize sub 1 a b = z at *
  clear hr
  replace h := Lib.hid h
  go_enter Tryd.func37, Tryd.ntmps37
  go_wp2_with fail
  refine name_calls (fun w1 => Below w.heap.size w w1 ∧ w1.heap[w.heap.size]? = some (.cells #[.int .u64 (lo a), .int .u64 (hi a)] 34 (0, 0)) ∧ w1.heap[w.heap.size + 1]? = some (.cells #[.int .u64 (lo b), .int .u64 (hi b)] 34 (0, 0)) ∧ w1.heap[w.heap.size + 1 + 1]? = some (.cells #[.int .u64 0, .int .u64 0] 34 (0, 0)))
    ⟨(((Below.refl _ _).alloc (Nat.le_refl _) _).alloc (by simp) _).alloc (by simp; omega) _, alloc_keeps (alloc_keeps (alloc_at rfl)), alloc_keeps (alloc_at (by simp)), alloc_at (by simp)⟩ ?_
  rintro w1 ⟨b1, k0, k1, k2⟩
  refine call_then (h.out _) ?_
  intro w2 hw2
  replace b1 := below_next b1 b1.size hw2
  replace k2 := keeps hw2 k2
  clear hw2 k0 k1
  obtain ⟨c0, d0, f0, g0⟩ := blk2 k2
  go_wp2
  obtain ⟨c2, d2, _, _⟩ := blk2 (store2 (u := .int .u64 z) (v := .int .u64 0) k2)
  exact bodyPost_ret (v := .agg #[.int .u64 z, .int .u64 0]) (by simp [results, Tryd.results37, go_sem, c2, d2]) rfl ⟨rfl, below_store2 b1 (by omega)⟩
theorem fsub_two (a b : Int) (a0 : 0 ≤ a) (a1 : a < 340282366920938463463374607431768211456) (b0 : 0 ≤ b) (b1 : b < 340282366920938463463374607431768211456) (w : World) :
    Calls Tryd.prog 37 #[.int .u8 2, .agg #[.int .u64 (lo a), .int .u64 (hi a)], .agg #[.int .u64 (lo b), .int .u64 (hi b)]] w fun e w' => e = .returned (.agg #[.int .u64 (lo (sub 2 a b)), .int .u64 (hi (sub 2 a b))]) ∧ Below w.heap.size w w' := by
  have h := Lib.hid (wsub_any a b a0 a1 b0 b1)
  clear a0 a1 b0 b1
  go_enter Tryd.func37, Tryd.ntmps37
  go_wp2_with fail
  refine name_calls (fun w1 => Below w.heap.size w w1 ∧ w1.heap[w.heap.size]? = some (.cells #[.int .u64 (lo a), .int .u64 (hi a)] 34 (0, 0)) ∧ w1.heap[w.heap.size + 1]? = some (.cells #[.int .u64 (lo b), .int .u64 (hi b)] 34 (0, 0)) ∧ w1.heap[w.heap.size + 1 + 1]? = some (.cells #[.int .u64 0, .int .u64 0] 34 (0, 0)))
    ⟨(((Below.refl _ _).alloc (Nat.le_refl _) _).alloc (by simp) _).alloc (by simp; omega) _, alloc_keeps (alloc_keeps (alloc_at rfl)), alloc_keeps (alloc_at (by simp)), alloc_at (by simp)⟩ ?_
  rintro w1 ⟨b1, k0, k1, k2⟩
  refine call_then (h.out _) ?_
  intro w2 hw2
  replace b1 := below_next b1 b1.size hw2
  replace k2 := keeps hw2 k2
  clear hw2 k0 k1
  obtain ⟨c0, d0, f0, g0⟩ := blk2 k2
  go_wp2
  obtain ⟨c2, d2, _, _⟩ := blk2 (store2 (u := .int .u64 (lo (sub 2 a b))) (v := .int .u64 (hi (sub 2 a b))) k2)
  exact bodyPost_ret (v := .agg #[.int .u64 (lo (sub 2 a b)), .int .u64 (hi (sub 2 a b))]) (by simp [results, Tryd.results37, go_sem, c2, d2]) rfl ⟨rfl, below_store2 b1 (by omega)⟩
theorem fmul_one (a b : Int) (w : World) :
    Calls Tryd.prog 29 #[.int .u8 1, .agg #[.int .u64 (lo a), .int .u64 (hi a)], .agg #[.int .u64 (lo b), .int .u64 (hi b)]] w fun e w' => e = .returned (.agg #[.int .u64 (lo (mul 1 a b)), .int .u64 (hi (mul 1 a b))]) ∧ Below w.heap.size w w' := by
  have h := gmul_any (lo a) (lo b) (lo_nonneg a) (lo_lt a) (lo_nonneg b) (lo_lt b)
  rw [mul_lo1 a b] at h
  have hr := mul_bound 1 a b
  rw [M1] at hr
  rw [lo_of_lt hr.1 (by omega), hi_of_lt hr.1 (by omega)]
  generalize mul 1 a b = z at *
  clear hr
  replace h := Lib.hid h
  go_enter Tryd.func29, Tryd.ntmps29
  go_wp2_with fail
  refine name_calls (fun w1 => Below w.heap.size w w1 ∧ w1.heap[w.heap.size]? = some (.cells #[.int .u64 (lo a), .int .u64 (hi a)] 34 (0, 0)) ∧ w1.heap[w.heap.size + 1]? = some (.cells #[.int .u64 (lo b), .int .u64 (hi b)] 34 (0, 0)) ∧ w1.heap[w.heap.size + 1 + 1]? = some (.cells #[.int .u64 0, .int .u64 0] 34 (0, 0)))
    ⟨(((Below.refl _ _).alloc (Nat.le_refl _) _).alloc (by simp) _).alloc (by simp; omega) _, alloc_keeps (alloc_keeps (alloc_at rfl)), alloc_keeps (alloc_at (by simp)), alloc_at (by simp)⟩ ?_
  rintro w1 ⟨b1, k0, k1, k2⟩
  refine call_then (h.out _) ?_
  intro w2 hw2
  replace b1 := below_next b1 b1.size hw2
  replace k2 := keeps hw2 k2
  clear hw2 k0 k1
  obtain ⟨c0, d0, f0, g0⟩ := blk2 k2
  go_wp2
  obtain ⟨c2, d2, _, _⟩ := blk2 (store2 (u := .int .u64 z) (v := .int .u64 0) k2)
  exact bodyPost_ret (v := .agg #[.int .u64 z, .int .u64 0]) (by simp [results, Tryd.results29, go_sem, c2, d2]) rfl ⟨rfl, below_store2 b1 (by omega)⟩
theorem fmul_two (a b : Int) (a0 : 0 ≤ a) (a1 : a < 340282366920938463463374607431768211456) (b0 : 0 ≤ b) (b1 : b < 340282366920938463463374607431768211456) (w : World) :
    Calls Tryd.prog 29 #[.int .u8 2, .agg #[.int .u64 (lo a), .int .u64 (hi a)], .agg #[.int .u64 (lo b), .int .u64 (hi b)]] w fun e w' => e = .returned (.agg #[.int .u64 (lo (mul 2 a b)), .int .u64 (hi (mul 2 a b))]) ∧ Below w.heap.size w w' := by
  have h := Lib.hid (wmul_any a b a0 a1 b0 b1)
  clear a0 a1 b0 b1
  go_enter Tryd.func29, Tryd.ntmps29
  go_wp2_with fail
  refine name_calls (fun w1 => Below w.heap.size w w1 ∧ w1.heap[w.heap.size]? = some (.cells #[.int .u64 (lo a), .int .u64 (hi a)] 34 (0, 0)) ∧ w1.heap[w.heap.size + 1]? = some (.cells #[.int .u64 (lo b), .int .u64 (hi b)] 34 (0, 0)) ∧ w1.heap[w.heap.size + 1 + 1]? = some (.cells #[.int .u64 0, .int .u64 0] 34 (0, 0)))
    ⟨(((Below.refl _ _).alloc (Nat.le_refl _) _).alloc (by simp) _).alloc (by simp; omega) _, alloc_keeps (alloc_keeps (alloc_at rfl)), alloc_keeps (alloc_at (by simp)), alloc_at (by simp)⟩ ?_
  rintro w1 ⟨b1, k0, k1, k2⟩
  refine call_then (h.out _) ?_
  intro w2 hw2
  replace b1 := below_next b1 b1.size hw2
  replace k2 := keeps hw2 k2
  clear hw2 k0 k1
  obtain ⟨c0, d0, f0, g0⟩ := blk2 k2
  go_wp2
  obtain ⟨c2, d2, _, _⟩ := blk2 (store2 (u := .int .u64 (lo (mul 2 a b))) (v := .int .u64 (hi (mul 2 a b))) k2)
  exact bodyPost_ret (v := .agg #[.int .u64 (lo (mul 2 a b)), .int .u64 (hi (mul 2 a b))]) (by simp [results, Tryd.results29, go_sem, c2, d2]) rfl ⟨rfl, below_store2 b1 (by omega)⟩
end Go.Proofs.YtnlnbikiocdpdaaDoor
