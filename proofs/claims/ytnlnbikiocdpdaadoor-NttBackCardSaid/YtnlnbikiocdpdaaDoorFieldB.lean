/-
  Contracts of package field: the rest of one element's.
-/
import Derived.Test.YtnlnbikiocdpdaaDoorFieldA
namespace Go.Proofs.YtnlnbikiocdpdaaDoor
open Go.RowKit F Flow
set_option linter.unusedVariables false
attribute [local go_sem] eql_elem

theorem fof_one (n : Int) (n0 : 0 ≤ n) (n1 : n < 18446744073709551616) (w : World) :
    Calls Tryd.prog 28 #[.int .u8 1, .int .u64 n] w fun e w' => e = .returned (.agg #[.int .u64 (lo (redu 1 n)), .int .u64 (hi (redu 1 n))]) ∧ Below w.heap.size w w' := by
  have h := gof_below n n0 n1
  have hr := redu1_bound n
  rw [lo_of_lt hr.1 (by omega), hi_of_lt hr.1 (by omega)]
  generalize redu 1 n = z at *
  clear hr
  replace h := Lib.hid h
  go_enter Tryd.func28, Tryd.ntmps28
  go_wp2_with fail
  refine name_calls (fun w1 => Below w.heap.size w w1 ∧ w1.heap[w.heap.size]? = some (.cells #[.int .u64 0, .int .u64 0] 34 (0, 0)))
    ⟨(Below.refl _ _).alloc (Nat.le_refl _) _, alloc_at rfl⟩ ?_
  rintro w1 ⟨b1, k1⟩
  have k0 := k1
  refine call_then (h.out _) ?_
  intro w2 hw2
  replace b1 := below_next b1 b1.size hw2
  replace k1 := keeps hw2 k1
  clear hw2 k0
  obtain ⟨c0, d0, f0, g0⟩ := blk2 k1
  go_wp2
  obtain ⟨c2, d2, _, _⟩ := blk2 (store2 (u := .int .u64 z) (v := .int .u64 0) k1)
  exact bodyPost_ret (v := .agg #[.int .u64 z, .int .u64 0]) (by simp [results, Tryd.results28, go_sem, c2, d2]) rfl ⟨rfl, below_store2 b1 (by omega)⟩
theorem fof_two (n : Int) (n0 : 0 ≤ n) (n1 : n < 18446744073709551616) (w : World) :
    Calls Tryd.prog 28 #[.int .u8 2, .int .u64 n] w fun e w' => e = .returned (.agg #[.int .u64 (lo (redu 2 n)), .int .u64 (hi (redu 2 n))]) ∧ Below w.heap.size w w' := by
  have h := wof_any n n0 (by omega)
  rw [lo_of_lt n0 n1, hi_of_lt n0 n1] at h
  generalize redu 2 n = z at *
  replace h := Lib.hid h
  go_enter Tryd.func28, Tryd.ntmps28
  go_wp2_with fail
  refine name_calls (fun w1 => Below w.heap.size w w1 ∧ w1.heap[w.heap.size]? = some (.cells #[.int .u64 0, .int .u64 0] 34 (0, 0)))
    ⟨(Below.refl _ _).alloc (Nat.le_refl _) _, alloc_at rfl⟩ ?_
  rintro w1 ⟨b1, k1⟩
  have k0 := k1
  refine call_then (h.out _) ?_
  intro w2 hw2
  replace b1 := below_next b1 b1.size hw2
  replace k1 := keeps hw2 k1
  clear hw2 k0
  obtain ⟨c0, d0, f0, g0⟩ := blk2 k1
  go_wp2
  obtain ⟨c2, d2, _, _⟩ := blk2 (store2 (u := .int .u64 (lo z)) (v := .int .u64 (hi z)) k1)
  exact bodyPost_ret (v := .agg #[.int .u64 (lo z), .int .u64 (hi z)]) (by simp [results, Tryd.results28, go_sem, c2, d2]) rfl ⟨rfl, below_store2 b1 (by omega)⟩
theorem fone_any (f : Int) (hf : f = 1 ∨ f = 2) (w : World) :
    Calls Tryd.prog 40 #[.int .u8 f] w fun e w' => e = .returned (.agg #[.int .u64 1, .int .u64 0]) ∧ Below w.heap.size w w' := by
  have h : ∀ w, Calls Tryd.prog 28 #[.int .u8 f, .int .u64 1] w fun e w' => e = .returned (.agg #[.int .u64 1, .int .u64 0]) ∧ Below w.heap.size w w' := by
    intro w
    rcases hf with rfl | rfl
    · exact fof_one 1 (by omega) (by omega) w
    · exact fof_two 1 (by omega) (by omega) w
  clear hf
  replace h := Lib.hid h
  go_enter Tryd.func40, Tryd.ntmps40
  go_wp2_with fail
  refine name_calls (fun w1 => Below w.heap.size w w1 ∧ w1.heap[w.heap.size]? = some (.cells #[.int .u64 0, .int .u64 0] 34 (0, 0)))
    ⟨(Below.refl _ _).alloc (Nat.le_refl _) _, alloc_at rfl⟩ ?_
  rintro w1 ⟨b1, k1⟩
  have k0 := k1
  refine call_then (h.out _) ?_
  intro w2 hw2
  replace b1 := below_next b1 b1.size hw2
  replace k1 := keeps hw2 k1
  clear hw2 k0
  obtain ⟨c0, d0, f0, g0⟩ := blk2 k1
  go_wp2
  obtain ⟨c2, d2, _, _⟩ := blk2 (store2 (u := .int .u64 1) (v := .int .u64 0) k1)
  exact bodyPost_ret (v := .agg #[.int .u64 1, .int .u64 0]) (by simp [results, Tryd.results40, go_sem, c2, d2]) rfl ⟨rfl, below_store2 b1 (by omega)⟩
theorem fvalid_one (w : World) : Calls Tryd.prog 22 #[.int .u8 1] w fun e w' => e = .returned (.bool true) ∧ Below w.heap.size w w' := by
  go_enter Tryd.func22, Tryd.ntmps22
  go_wp2
  go_ret
  exact ⟨rfl, Below.refl _ _⟩
theorem fvalid_two (w : World) : Calls Tryd.prog 22 #[.int .u8 2] w fun e w' => e = .returned (.bool true) ∧ Below w.heap.size w w' := by
  go_enter Tryd.func22, Tryd.ntmps22
  go_wp2
  go_ret
  exact ⟨rfl, Below.refl _ _⟩
theorem finv_one (a v c : Int) (h : ∀ w, Calls Tryd.prog 43 #[.int .u64 (lo a)] w fun e w' => e = .returned (.tuple #[.int .u64 v, .int .i64 c]) ∧ Below w.heap.size w w') (w : World) :
    Calls Tryd.prog 27 #[.int .u8 1, .agg #[.int .u64 (lo a), .int .u64 (hi a)]] w fun e w' => e = .returned (.tuple #[.agg #[.int .u64 v, .int .u64 0], .int .i64 c]) ∧ Below w.heap.size w w' := by
  replace h := Lib.hid h
  go_enter Tryd.func27, Tryd.ntmps27
  go_wp2_with fail
  refine name_calls (fun w1 => Below w.heap.size w w1 ∧ w1.heap[w.heap.size]? = some (.cells #[.int .u64 (lo a), .int .u64 (hi a)] 34 (0, 0)) ∧ w1.heap[w.heap.size + 1]? = some (.cells #[.int .u64 0, .int .u64 0] 34 (0, 0)))
    ⟨((Below.refl _ _).alloc (Nat.le_refl _) _).alloc (by simp) _, alloc_keeps (alloc_at rfl), alloc_at (by simp)⟩ ?_
  rintro w1 ⟨b1, k0, k1⟩
  refine call_then (h.out _) ?_
  intro w2 hw2
  replace b1 := below_next b1 b1.size hw2
  replace k1 := keeps hw2 k1
  clear hw2
  obtain ⟨c0, d0, f0, g0⟩ := blk2 k1
  go_wp2
  obtain ⟨c2, d2, _, _⟩ := blk2 (store2 (u := .int .u64 v) (v := .int .u64 0) k1)
  exact bodyPost_ret (v := .tuple #[.agg #[.int .u64 v, .int .u64 0], .int .i64 c]) (by simp [results, Tryd.results27, go_sem, c2, d2]) rfl ⟨rfl, below_store2 b1 (by omega)⟩
theorem finv_two (a x y c : Int) (h : ∀ w, Calls Tryd.prog 44 #[.agg #[.int .u64 (lo a), .int .u64 (hi a)]] w fun e w' => e = .returned (.tuple #[.agg #[.int .u64 x, .int .u64 y], .int .i64 c]) ∧ Below w.heap.size w w') (w : World) :
    Calls Tryd.prog 27 #[.int .u8 2, .agg #[.int .u64 (lo a), .int .u64 (hi a)]] w fun e w' => e = .returned (.tuple #[.agg #[.int .u64 x, .int .u64 y], .int .i64 c]) ∧ Below w.heap.size w w' := by
  replace h := Lib.hid h
  go_enter Tryd.func27, Tryd.ntmps27
  go_wp2_with fail
  refine name_calls (fun w1 => Below w.heap.size w w1 ∧ w1.heap[w.heap.size]? = some (.cells #[.int .u64 (lo a), .int .u64 (hi a)] 34 (0, 0)) ∧ w1.heap[w.heap.size + 1]? = some (.cells #[.int .u64 0, .int .u64 0] 34 (0, 0)))
    ⟨((Below.refl _ _).alloc (Nat.le_refl _) _).alloc (by simp) _, alloc_keeps (alloc_at rfl), alloc_at (by simp)⟩ ?_
  rintro w1 ⟨b1, k0, k1⟩
  refine call_then (h.out _) ?_
  intro w2 hw2
  replace b1 := below_next b1 b1.size hw2
  replace k1 := keeps hw2 k1
  clear hw2
  obtain ⟨c0, d0, f0, g0⟩ := blk2 k1
  go_wp2
  obtain ⟨c2, d2, _, _⟩ := blk2 (store2 (u := .int .u64 x) (v := .int .u64 y) k1)
  exact bodyPost_ret (v := .tuple #[.agg #[.int .u64 x, .int .u64 y], .int .i64 c]) (by simp [results, Tryd.results27, go_sem, c2, d2]) rfl ⟨rfl, below_store2 b1 (by omega)⟩
theorem froot_one (log v c : Int) (h : ∀ w, Calls Tryd.prog 38 #[.int .i64 log] w fun e w' => e = .returned (.tuple #[.int .u64 v, .int .i64 c]) ∧ Below w.heap.size w w') (w : World) :
    Calls Tryd.prog 23 #[.int .u8 1, .int .i64 log] w fun e w' => e = .returned (.tuple #[.agg #[.int .u64 v, .int .u64 0], .int .i64 c]) ∧ Below w.heap.size w w' := by
  replace h := Lib.hid h
  go_enter Tryd.func23, Tryd.ntmps23
  go_wp2_with fail
  refine name_calls (fun w1 => Below w.heap.size w w1 ∧ w1.heap[w.heap.size]? = some (.cells #[.int .u64 0, .int .u64 0] 34 (0, 0)))
    ⟨(Below.refl _ _).alloc (Nat.le_refl _) _, alloc_at rfl⟩ ?_
  rintro w1 ⟨b1, k1⟩
  have k0 := k1
  refine call_then (h.out _) ?_
  intro w2 hw2
  replace b1 := below_next b1 b1.size hw2
  replace k1 := keeps hw2 k1
  clear hw2
  obtain ⟨c0, d0, f0, g0⟩ := blk2 k1
  go_wp2
  obtain ⟨c2, d2, _, _⟩ := blk2 (store2 (u := .int .u64 v) (v := .int .u64 0) k1)
  exact bodyPost_ret (v := .tuple #[.agg #[.int .u64 v, .int .u64 0], .int .i64 c]) (by simp [results, Tryd.results23, go_sem, c2, d2]) rfl ⟨rfl, below_store2 b1 (by omega)⟩
theorem froot_two (log x y c : Int) (h : ∀ w, Calls Tryd.prog 39 #[.int .i64 log] w fun e w' => e = .returned (.tuple #[.agg #[.int .u64 x, .int .u64 y], .int .i64 c]) ∧ Below w.heap.size w w') (w : World) :
    Calls Tryd.prog 23 #[.int .u8 2, .int .i64 log] w fun e w' => e = .returned (.tuple #[.agg #[.int .u64 x, .int .u64 y], .int .i64 c]) ∧ Below w.heap.size w w' := by
  replace h := Lib.hid h
  go_enter Tryd.func23, Tryd.ntmps23
  go_wp2_with fail
  refine name_calls (fun w1 => Below w.heap.size w w1 ∧ w1.heap[w.heap.size]? = some (.cells #[.int .u64 0, .int .u64 0] 34 (0, 0)))
    ⟨(Below.refl _ _).alloc (Nat.le_refl _) _, alloc_at rfl⟩ ?_
  rintro w1 ⟨b1, k1⟩
  have k0 := k1
  refine call_then (h.out _) ?_
  intro w2 hw2
  replace b1 := below_next b1 b1.size hw2
  replace k1 := keeps hw2 k1
  clear hw2
  obtain ⟨c0, d0, f0, g0⟩ := blk2 k1
  go_wp2
  obtain ⟨c2, d2, _, _⟩ := blk2 (store2 (u := .int .u64 x) (v := .int .u64 y) k1)
  exact bodyPost_ret (v := .tuple #[.agg #[.int .u64 x, .int .u64 y], .int .i64 c]) (by simp [results, Tryd.results23, go_sem, c2, d2]) rfl ⟨rfl, below_store2 b1 (by omega)⟩
theorem F_even (n : Int) (h : n % 2 = 0) (n0 : 0 ≤ n) (n1 : n ≤ 255) (w : World) : Calls Tryd.prog 7 #[.int .u8 n] w fun e w' => e = .returned (.int .u8 1) ∧ Below w.heap.size w w' := by
  go_enter Tryd.func7, Tryd.ntmps7
  go_wp2
  go_ret
  exact ⟨rfl, Below.refl _ _⟩
theorem F_odd (n : Int) (h : n % 2 = 1) (n0 : 0 ≤ n) (n1 : n ≤ 255) (w : World) : Calls Tryd.prog 7 #[.int .u8 n] w fun e w' => e = .returned (.int .u8 2) ∧ Below w.heap.size w w' := by
  go_enter Tryd.func7, Tryd.ntmps7
  go_wp2
  go_ret
  exact ⟨rfl, Below.refl _ _⟩
end Go.Proofs.YtnlnbikiocdpdaaDoor
