/-
  Contracts of package field: the rest of one element's.
-/
import Derived.Test.YtailpfbdanhpmaaFieldA
namespace Go.Proofs.Ytailpfbdanhpmaa
open Go.RowKit F Flow
set_option linter.unusedVariables false
attribute [local go_sem] eql_elem

theorem fneg_one (a : Int) (w : World) :
    Calls Try.prog 25 #[.int .u8 1, .agg #[.int .u64 (lo a), .int .u64 (hi a)]] w fun e w' => e = .returned (.agg #[.int .u64 (lo (neg 1 a)), .int .u64 (hi (neg 1 a))]) ∧ Below w.heap.size w w' := by
  have h := gneg_below (lo a) (lo_nonneg a) (lo_lt a)
  rw [neg_lo1 a] at h
  have hr := neg_bound 1 a
  rw [M1] at hr
  rw [lo_of_lt hr.1 (by omega), hi_of_lt hr.1 (by omega)]
  generalize neg 1 a = z at *
  clear hr
  replace h := Lib.hid h
  go_enter Try.func25, Try.ntmps25
  go_wp2_with fail
  refine name_calls (fun w1 => Below w.heap.size w w1 ∧ w1.heap[w.heap.size]? = some (.cells #[.int .u64 (lo a), .int .u64 (hi a)] 35 (0, 0)) ∧ w1.heap[w.heap.size + 1]? = some (.cells #[.int .u64 0, .int .u64 0] 35 (0, 0)))
    ⟨((Below.refl _ _).alloc (Nat.le_refl _) _).alloc (by simp) _, alloc_keeps (alloc_at rfl), alloc_at (by simp)⟩ ?_
  rintro w1 ⟨b1, k0, k1⟩
  refine call_then (h.out _) ?_
  intro w2 hw2
  replace b1 := below_next b1 b1.size hw2
  replace k1 := keeps hw2 k1
  clear hw2 k0
  obtain ⟨c0, d0, f0, g0⟩ := blk2 k1
  go_wp2
  obtain ⟨c2, d2, _, _⟩ := blk2 (store2 (u := .int .u64 z) (v := .int .u64 0) k1)
  exact bodyPost_ret (v := .agg #[.int .u64 z, .int .u64 0]) (by simp [results, Try.results25, go_sem, c2, d2]) rfl ⟨rfl, below_store2 b1 (by omega)⟩
theorem fneg_two (a : Int) (a0 : 0 ≤ a) (a1 : a < 340282366920938463463374607431768211456) (w : World) :
    Calls Try.prog 25 #[.int .u8 2, .agg #[.int .u64 (lo a), .int .u64 (hi a)]] w fun e w' => e = .returned (.agg #[.int .u64 (lo (neg 2 a)), .int .u64 (hi (neg 2 a))]) ∧ Below w.heap.size w w' := by
  have h := Lib.hid (wneg_any a a0 a1)
  clear a0 a1
  go_enter Try.func25, Try.ntmps25
  go_wp2_with fail
  refine name_calls (fun w1 => Below w.heap.size w w1 ∧ w1.heap[w.heap.size]? = some (.cells #[.int .u64 (lo a), .int .u64 (hi a)] 35 (0, 0)) ∧ w1.heap[w.heap.size + 1]? = some (.cells #[.int .u64 0, .int .u64 0] 35 (0, 0)))
    ⟨((Below.refl _ _).alloc (Nat.le_refl _) _).alloc (by simp) _, alloc_keeps (alloc_at rfl), alloc_at (by simp)⟩ ?_
  rintro w1 ⟨b1, k0, k1⟩
  refine call_then (h.out _) ?_
  intro w2 hw2
  replace b1 := below_next b1 b1.size hw2
  replace k1 := keeps hw2 k1
  clear hw2 k0
  obtain ⟨c0, d0, f0, g0⟩ := blk2 k1
  go_wp2
  obtain ⟨c2, d2, _, _⟩ := blk2 (store2 (u := .int .u64 (lo (neg 2 a))) (v := .int .u64 (hi (neg 2 a))) k1)
  exact bodyPost_ret (v := .agg #[.int .u64 (lo (neg 2 a)), .int .u64 (hi (neg 2 a))]) (by simp [results, Try.results25, go_sem, c2, d2]) rfl ⟨rfl, below_store2 b1 (by omega)⟩
theorem fof_one (n : Int) (n0 : 0 ≤ n) (n1 : n < 18446744073709551616) (w : World) :
    Calls Try.prog 37 #[.int .u8 1, .int .u64 n] w fun e w' => e = .returned (.agg #[.int .u64 (lo (redu 1 n)), .int .u64 (hi (redu 1 n))]) ∧ Below w.heap.size w w' := by
  have h := gof_below n n0 n1
  have hr := redu1_bound n
  rw [lo_of_lt hr.1 (by omega), hi_of_lt hr.1 (by omega)]
  generalize redu 1 n = z at *
  clear hr
  replace h := Lib.hid h
  go_enter Try.func37, Try.ntmps37
  go_wp2_with fail
  refine name_calls (fun w1 => Below w.heap.size w w1 ∧ w1.heap[w.heap.size]? = some (.cells #[.int .u64 0, .int .u64 0] 35 (0, 0)))
    ⟨(Below.refl _ _).alloc (Nat.le_refl _) _, alloc_at rfl⟩ ?_
  rintro w1 ⟨b1, k1⟩
  have k0 := k1
  refine call_then (h.out _) ?_
  intro w2 hw2
  replace b1 := below_next b1 b1.size hw2
  replace k1 := keeps hw2 k1
  clear hw2 k0
  obtain ⟨c0, d0, f0, g0⟩ := blk2 k1
  go_wp2
  obtain ⟨c2, d2, _, _⟩ := blk2 (store2 (u := .int .u64 z) (v := .int .u64 0) k1)
  exact bodyPost_ret (v := .agg #[.int .u64 z, .int .u64 0]) (by simp [results, Try.results37, go_sem, c2, d2]) rfl ⟨rfl, below_store2 b1 (by omega)⟩
theorem fof_two (n : Int) (n0 : 0 ≤ n) (n1 : n < 18446744073709551616) (w : World) :
    Calls Try.prog 37 #[.int .u8 2, .int .u64 n] w fun e w' => e = .returned (.agg #[.int .u64 (lo (redu 2 n)), .int .u64 (hi (redu 2 n))]) ∧ Below w.heap.size w w' := by
  have h := wof_any n n0 (by omega)
  rw [lo_of_lt n0 n1, hi_of_lt n0 n1] at h
  generalize redu 2 n = z at *
  replace h := Lib.hid h
  go_enter Try.func37, Try.ntmps37
  go_wp2_with fail
  refine name_calls (fun w1 => Below w.heap.size w w1 ∧ w1.heap[w.heap.size]? = some (.cells #[.int .u64 0, .int .u64 0] 35 (0, 0)))
    ⟨(Below.refl _ _).alloc (Nat.le_refl _) _, alloc_at rfl⟩ ?_
  rintro w1 ⟨b1, k1⟩
  have k0 := k1
  refine call_then (h.out _) ?_
  intro w2 hw2
  replace b1 := below_next b1 b1.size hw2
  replace k1 := keeps hw2 k1
  clear hw2 k0
  obtain ⟨c0, d0, f0, g0⟩ := blk2 k1
  go_wp2
  obtain ⟨c2, d2, _, _⟩ := blk2 (store2 (u := .int .u64 (lo z)) (v := .int .u64 (hi z)) k1)
  exact bodyPost_ret (v := .agg #[.int .u64 (lo z), .int .u64 (hi z)]) (by simp [results, Try.results37, go_sem, c2, d2]) rfl ⟨rfl, below_store2 b1 (by omega)⟩
theorem fone_any (f : Int) (hf : f = 1 ∨ f = 2) (w : World) :
    Calls Try.prog 26 #[.int .u8 f] w fun e w' => e = .returned (.agg #[.int .u64 1, .int .u64 0]) ∧ Below w.heap.size w w' := by
  have h : ∀ w, Calls Try.prog 37 #[.int .u8 f, .int .u64 1] w fun e w' => e = .returned (.agg #[.int .u64 1, .int .u64 0]) ∧ Below w.heap.size w w' := by
    intro w
    rcases hf with rfl | rfl
    · exact fof_one 1 (by omega) (by omega) w
    · exact fof_two 1 (by omega) (by omega) w
  clear hf
  replace h := Lib.hid h
  go_enter Try.func26, Try.ntmps26
  go_wp2_with fail
  refine name_calls (fun w1 => Below w.heap.size w w1 ∧ w1.heap[w.heap.size]? = some (.cells #[.int .u64 0, .int .u64 0] 35 (0, 0)))
    ⟨(Below.refl _ _).alloc (Nat.le_refl _) _, alloc_at rfl⟩ ?_
  rintro w1 ⟨b1, k1⟩
  have k0 := k1
  refine call_then (h.out _) ?_
  intro w2 hw2
  replace b1 := below_next b1 b1.size hw2
  replace k1 := keeps hw2 k1
  clear hw2 k0
  obtain ⟨c0, d0, f0, g0⟩ := blk2 k1
  go_wp2
  obtain ⟨c2, d2, _, _⟩ := blk2 (store2 (u := .int .u64 1) (v := .int .u64 0) k1)
  exact bodyPost_ret (v := .agg #[.int .u64 1, .int .u64 0]) (by simp [results, Try.results26, go_sem, c2, d2]) rfl ⟨rfl, below_store2 b1 (by omega)⟩
theorem fin_one (a : Int) (w : World) :
    Calls Try.prog 38 #[.int .u8 1, .agg #[.int .u64 (lo a), .int .u64 (hi a)]] w fun e w' => e = .returned (.bool (decide (a < M 1) && decide (0 ≤ a))) ∧ Below w.heap.size w w' := by
  by_cases hh : hi a = 0
  · have hd : (decide (a < M 1) && decide (0 ≤ a)) = decide (lo a < 18446744069414584321) := by
      have e : a = lo a := by unfold lo hi at *; omega
      have := lo_nonneg a
      rw [M1, ← e]
      have h0 : 0 ≤ a := by omega
      simp [h0]
    rw [hd]
    generalize lo a = x at *
    generalize hi a = y at *
    subst hh
    go_enter Try.func38, Try.ntmps38
    go_wp2_with fail
    refine name_calls (fun w1 => Below w.heap.size w w1) ((Below.refl _ _).alloc (Nat.le_refl _) _) ?_
    intro w1 b1
    refine call_then ((gin_any x _).mono fun _ _ ⟨he, hw⟩ => ⟨he, below_of_same hw⟩) ?_
    intro w2 hw2
    go_wp2
    go_ret
    exact ⟨rfl, below_next b1 b1.size hw2⟩
  · have hd : (decide (a < M 1) && decide (0 ≤ a)) = false := by
      rw [M1]; unfold hi at hh
      by_cases h0 : 0 ≤ a
      · have : ¬ a < 18446744069414584321 := by omega
        simp [this]
      · simp [h0]
    rw [hd]
    have hc : (hi a == 0) = false := by simpa using hh
    clear hh hd
    go_enter Try.func38, Try.ntmps38
    go_wp2
    go_ret
    exact ⟨rfl, (Below.refl _ _).alloc (Nat.le_refl _) _⟩
theorem fin_two (a : Int) (w : World) :
    Calls Try.prog 38 #[.int .u8 2, .agg #[.int .u64 (lo a), .int .u64 (hi a)]] w fun e w' => e = .returned (.bool (decide (a < M 2))) ∧ Below w.heap.size w w' := by
  go_enter Try.func38, Try.ntmps38
  go_wp2_with fail
  refine name_calls (fun w1 => Below w.heap.size w w1) ((Below.refl _ _).alloc (Nat.le_refl _) _) ?_
  intro w1 b1
  refine call_then (win_any a _) ?_
  intro w2 hw2
  go_wp2
  go_ret
  exact ⟨rfl, below_next b1 b1.size hw2⟩
theorem fvalid_one (w : World) : Calls Try.prog 27 #[.int .u8 1] w fun e w' => e = .returned (.bool true) ∧ Below w.heap.size w w' := by
  go_enter Try.func27, Try.ntmps27
  go_wp2
  go_ret
  exact ⟨rfl, Below.refl _ _⟩
theorem fvalid_two (w : World) : Calls Try.prog 27 #[.int .u8 2] w fun e w' => e = .returned (.bool true) ∧ Below w.heap.size w w' := by
  go_enter Try.func27, Try.ntmps27
  go_wp2
  go_ret
  exact ⟨rfl, Below.refl _ _⟩
theorem F_even (n : Int) (h : n % 2 = 0) (n0 : 0 ≤ n) (n1 : n ≤ 255) (w : World) : Calls Try.prog 6 #[.int .u8 n] w fun e w' => e = .returned (.int .u8 1) ∧ Below w.heap.size w w' := by
  go_enter Try.func6, Try.ntmps6
  go_wp2
  go_ret
  exact ⟨rfl, Below.refl _ _⟩
theorem F_odd (n : Int) (h : n % 2 = 1) (n0 : 0 ≤ n) (n1 : n ≤ 255) (w : World) : Calls Try.prog 6 #[.int .u8 n] w fun e w' => e = .returned (.int .u8 2) ∧ Below w.heap.size w w' := by
  go_enter Try.func6, Try.ntmps6
  go_wp2
  go_ret
  exact ⟨rfl, Below.refl _ _⟩
end Go.Proofs.Ytailpfbdanhpmaa
