/-
  Contracts of package field at what is no field.
-/
import Derived.Test.YtokdbedineoklaaFieldC
import Derived.Test.YtokdbedineoklaaElems
namespace Go.Proofs.Ytokdbedineoklaa
open Go.RowKit F Flow
set_option linter.unusedVariables false
attribute [local go_sem] eql_elem

/-- What is no field. -/
structure NoField (n : Int) : Prop where
  one : ((n : Int) == 1) = false
  two : ((n : Int) == 2) = false
theorem fvalid_none (n : Int) (h : NoField n) (w : World) : Calls Try.prog 29 #[.int .u8 n] w fun e w' => e = .returned (.bool false) ∧ Below w.heap.size w w' := by
  obtain ⟨h1, h2⟩ := h
  go_enter Try.func29, Try.ntmps29
  go_wp2
  go_ret
  exact ⟨rfl, Below.refl _ _⟩
theorem fsize_none (n : Int) (h : NoField n) (w : World) : Calls Try.prog 27 #[.int .u8 n] w fun e w' => e = .returned (.int .i64 0) ∧ Below w.heap.size w w' := by
  obtain ⟨h1, h2⟩ := h
  go_enter Try.func27, Try.ntmps27
  go_wp2
  go_ret
  exact ⟨rfl, Below.refl _ _⟩
theorem froots_none (n : Int) (h : NoField n) (w : World) : Calls Try.prog 33 #[.int .u8 n] w fun e w' => e = .returned (.int .i64 0) ∧ Below w.heap.size w w' := by
  obtain ⟨h1, h2⟩ := h
  go_enter Try.func33, Try.ntmps33
  go_wp2
  go_ret
  exact ⟨rfl, Below.refl _ _⟩
theorem fin_none (n a : Int) (h : NoField n) (w : World) : Calls Try.prog 25 #[.int .u8 n, .agg #[.int .u64 (lo a), .int .u64 (hi a)]] w fun e w' => e = .returned (.bool false) ∧ Below w.heap.size w w' := by
  obtain ⟨h1, h2⟩ := h
  go_enter Try.func25, Try.ntmps25
  go_wp2
  go_ret
  exact ⟨rfl, (Below.refl _ _).alloc (Nat.le_refl _) _⟩
theorem fOf_none (n a : Int) (h : NoField n) (w : World) : Calls Try.prog 23 #[.int .u8 n, .int .u64 a] w fun e w' => e = .returned (.agg #[.int .u64 0, .int .u64 0]) ∧ Below w.heap.size w w' := by
  obtain ⟨h1, h2⟩ := h
  go_enter Try.func23, Try.ntmps23
  go_wp2
  exact bodyPost_ret (v := .agg #[.int .u64 0, .int .u64 0]) (by simp [results, Try.results23, go_sem]) rfl ⟨rfl, by repeat (first | exact Below.refl _ _ | refine Below.alloc ?_ (by simp; try omega) _ | refine Below.setCell ?_ (by simp) _)⟩
theorem fAdd_none (n a b : Int) (h : NoField n) (w : World) : Calls Try.prog 14 #[.int .u8 n, .agg #[.int .u64 (lo a), .int .u64 (hi a)], .agg #[.int .u64 (lo b), .int .u64 (hi b)]] w fun e w' => e = .returned (.agg #[.int .u64 0, .int .u64 0]) ∧ Below w.heap.size w w' := by
  obtain ⟨h1, h2⟩ := h
  go_enter Try.func14, Try.ntmps14
  go_wp2
  exact bodyPost_ret (v := .agg #[.int .u64 0, .int .u64 0]) (by simp [results, Try.results14, go_sem]) rfl ⟨rfl, by repeat (first | exact Below.refl _ _ | refine Below.alloc ?_ (by simp; try omega) _ | refine Below.setCell ?_ (by simp) _)⟩
theorem fSub_none (n a b : Int) (h : NoField n) (w : World) : Calls Try.prog 16 #[.int .u8 n, .agg #[.int .u64 (lo a), .int .u64 (hi a)], .agg #[.int .u64 (lo b), .int .u64 (hi b)]] w fun e w' => e = .returned (.agg #[.int .u64 0, .int .u64 0]) ∧ Below w.heap.size w w' := by
  obtain ⟨h1, h2⟩ := h
  go_enter Try.func16, Try.ntmps16
  go_wp2
  exact bodyPost_ret (v := .agg #[.int .u64 0, .int .u64 0]) (by simp [results, Try.results16, go_sem]) rfl ⟨rfl, by repeat (first | exact Below.refl _ _ | refine Below.alloc ?_ (by simp; try omega) _ | refine Below.setCell ?_ (by simp) _)⟩
theorem fMul_none (n a b : Int) (h : NoField n) (w : World) : Calls Try.prog 20 #[.int .u8 n, .agg #[.int .u64 (lo a), .int .u64 (hi a)], .agg #[.int .u64 (lo b), .int .u64 (hi b)]] w fun e w' => e = .returned (.agg #[.int .u64 0, .int .u64 0]) ∧ Below w.heap.size w w' := by
  obtain ⟨h1, h2⟩ := h
  go_enter Try.func20, Try.ntmps20
  go_wp2
  exact bodyPost_ret (v := .agg #[.int .u64 0, .int .u64 0]) (by simp [results, Try.results20, go_sem]) rfl ⟨rfl, by repeat (first | exact Below.refl _ _ | refine Below.alloc ?_ (by simp; try omega) _ | refine Below.setCell ?_ (by simp) _)⟩
theorem fNeg_none (n a : Int) (h : NoField n) (w : World) : Calls Try.prog 18 #[.int .u8 n, .agg #[.int .u64 (lo a), .int .u64 (hi a)]] w fun e w' => e = .returned (.agg #[.int .u64 0, .int .u64 0]) ∧ Below w.heap.size w w' := by
  obtain ⟨h1, h2⟩ := h
  go_enter Try.func18, Try.ntmps18
  go_wp2
  exact bodyPost_ret (v := .agg #[.int .u64 0, .int .u64 0]) (by simp [results, Try.results18, go_sem]) rfl ⟨rfl, by repeat (first | exact Below.refl _ _ | refine Below.alloc ?_ (by simp; try omega) _ | refine Below.setCell ?_ (by simp) _)⟩
theorem fPow_none (n a k : Int) (h : NoField n) (w : World) : Calls Try.prog 21 #[.int .u8 n, .agg #[.int .u64 (lo a), .int .u64 (hi a)], .int .u64 k] w fun e w' => e = .returned (.agg #[.int .u64 0, .int .u64 0]) ∧ Below w.heap.size w w' := by
  obtain ⟨h1, h2⟩ := h
  go_enter Try.func21, Try.ntmps21
  go_wp2
  exact bodyPost_ret (v := .agg #[.int .u64 0, .int .u64 0]) (by simp [results, Try.results21, go_sem]) rfl ⟨rfl, by repeat (first | exact Below.refl _ _ | refine Below.alloc ?_ (by simp; try omega) _ | refine Below.setCell ?_ (by simp) _)⟩
theorem fInv_none (n a : Int) (h : NoField n) (w : World) : Calls Try.prog 12 #[.int .u8 n, .agg #[.int .u64 (lo a), .int .u64 (hi a)]] w fun e w' => e = .returned (.tuple #[.agg #[.int .u64 0, .int .u64 0], .int .i64 10]) ∧ Below w.heap.size w w' := by
  obtain ⟨h1, h2⟩ := h
  go_enter Try.func12, Try.ntmps12
  go_wp2
  exact bodyPost_ret (v := .tuple #[.agg #[.int .u64 0, .int .u64 0], .int .i64 10]) (by simp [results, Try.results12, go_sem]) rfl ⟨rfl, by repeat (first | exact Below.refl _ _ | refine Below.alloc ?_ (by simp; try omega) _ | refine Below.setCell ?_ (by simp) _)⟩
theorem fRoot_none (n k : Int) (h : NoField n) (w : World) : Calls Try.prog 30 #[.int .u8 n, .int .i64 k] w fun e w' => e = .returned (.tuple #[.agg #[.int .u64 0, .int .u64 0], .int .i64 10]) ∧ Below w.heap.size w w' := by
  obtain ⟨h1, h2⟩ := h
  go_enter Try.func30, Try.ntmps30
  go_wp2
  exact bodyPost_ret (v := .tuple #[.agg #[.int .u64 0, .int .u64 0], .int .i64 10]) (by simp [results, Try.results30, go_sem]) rfl ⟨rfl, by repeat (first | exact Below.refl _ _ | refine Below.alloc ?_ (by simp; try omega) _ | refine Below.setCell ?_ (by simp) _)⟩
theorem fbytes_none (n a : Int) (h : NoField n) (w : World) : Calls Try.prog 35 #[.int .u8 n, .agg #[.int .u64 (lo a), .int .u64 (hi a)]] w fun e w' => e = .returned (.slice none 0 0) ∧ Below w.heap.size w w' := by
  obtain ⟨h1, h2⟩ := h
  go_enter Try.func35, Try.ntmps35
  go_wp2
  go_ret
  exact ⟨rfl, (Below.refl _ _).alloc (Nat.le_refl _) _⟩
theorem fvec_none (n : Int) (l : Value) (h : NoField n) (w : World) : Calls Try.prog 36 #[.int .u8 n, l] w fun e w' => e = .returned (.slice none 0 0) ∧ Below w.heap.size w w' := by
  have hv := Lib.hid (fvalid_none n h)
  go_enter Try.func36, Try.ntmps36
  go_wp2_with fail
  refine call_then (hv.out _) ?_
  intro w1 hb
  go_wp2
  go_ret
  exact ⟨rfl, hb⟩
theorem ftake_none (n : Int) (l : Value) (h : NoField n) (w : World) : Calls Try.prog 31 #[.int .u8 n, l] w fun e w' => e = .returned (.tuple #[.agg #[.int .u64 0, .int .u64 0], .int .i64 10]) ∧ Below w.heap.size w w' := by
  have hv := Lib.hid (fvalid_none n h)
  go_enter Try.func31, Try.ntmps31
  go_wp2_with fail
  refine name_calls (fun w1 => Below w.heap.size w w1 ∧ w1.heap[w.heap.size]? = some (.cells #[.int .u64 0, .int .u64 0] 24 (0, 0))) ⟨(Below.refl _ _).alloc (Nat.le_refl _) _, alloc_at rfl⟩ ?_
  rintro w1 ⟨hb, k0⟩
  refine call_then (hv.out _) ?_
  intro w2 hw2
  replace hb := below_next hb hb.size hw2
  replace k0 := keeps hw2 k0
  obtain ⟨c0, d0, f0, g0⟩ := blk2 k0
  go_wp2
  obtain ⟨p2, q2, _, _⟩ := blk2 (store2 (u := .int .u64 0) (v := .int .u64 0) k0)
  exact bodyPost_ret (v := .tuple #[.agg #[.int .u64 0, .int .u64 0], .int .i64 10]) (by simp [results, Try.results31, go_sem, p2, q2]) rfl ⟨rfl, below_store2 hb (Nat.le_refl _)⟩
theorem ftakevec_none (n k : Int) (l : Value) (h : NoField n) (w : World) : Calls Try.prog 32 #[.int .u8 n, l, .int .i64 k] w fun e w' => e = .returned (.tuple #[.slice none 0 0, .int .i64 10]) ∧ Below w.heap.size w w' := by
  have hv := Lib.hid (fvalid_none n h)
  go_enter Try.func32, Try.ntmps32
  go_wp2_with fail
  refine call_then (hv.out _) ?_
  intro w1 hb
  go_wp2
  go_ret2
  exact ⟨rfl, hb⟩
end Go.Proofs.Ytokdbedineoklaa
