/-
  Contracts of package field at what is no field.
-/
import Derived.Test.YtailpfbdanhpmaaFieldC
import Derived.Test.YtailpfbdanhpmaaElems
namespace Go.Proofs.Ytailpfbdanhpmaa
open Go.RowKit F Flow
set_option linter.unusedVariables false
attribute [local go_sem] eql_elem

/-- What is no field. -/
structure NoField (n : Int) : Prop where
  one : ((n : Int) == 1) = false
  two : ((n : Int) == 2) = false
theorem fvalid_none (n : Int) (h : NoField n) (w : World) : Calls Try.prog 27 #[.int .u8 n] w fun e w' => e = .returned (.bool false) ∧ Below w.heap.size w w' := by
  obtain ⟨h1, h2⟩ := h
  go_enter Try.func27, Try.ntmps27
  go_wp2
  go_ret
  exact ⟨rfl, Below.refl _ _⟩
theorem fin_none (n a : Int) (h : NoField n) (w : World) : Calls Try.prog 38 #[.int .u8 n, .agg #[.int .u64 (lo a), .int .u64 (hi a)]] w fun e w' => e = .returned (.bool false) ∧ Below w.heap.size w w' := by
  obtain ⟨h1, h2⟩ := h
  go_enter Try.func38, Try.ntmps38
  go_wp2
  go_ret
  exact ⟨rfl, (Below.refl _ _).alloc (Nat.le_refl _) _⟩
theorem fOf_none (n a : Int) (h : NoField n) (w : World) : Calls Try.prog 37 #[.int .u8 n, .int .u64 a] w fun e w' => e = .returned (.agg #[.int .u64 0, .int .u64 0]) ∧ Below w.heap.size w w' := by
  obtain ⟨h1, h2⟩ := h
  go_enter Try.func37, Try.ntmps37
  go_wp2
  exact bodyPost_ret (v := .agg #[.int .u64 0, .int .u64 0]) (by simp [results, Try.results37, go_sem]) rfl ⟨rfl, by repeat (first | exact Below.refl _ _ | refine Below.alloc ?_ (by simp; try omega) _ | refine Below.setCell ?_ (by simp) _)⟩
theorem fAdd_none (n a b : Int) (h : NoField n) (w : World) : Calls Try.prog 20 #[.int .u8 n, .agg #[.int .u64 (lo a), .int .u64 (hi a)], .agg #[.int .u64 (lo b), .int .u64 (hi b)]] w fun e w' => e = .returned (.agg #[.int .u64 0, .int .u64 0]) ∧ Below w.heap.size w w' := by
  obtain ⟨h1, h2⟩ := h
  go_enter Try.func20, Try.ntmps20
  go_wp2
  exact bodyPost_ret (v := .agg #[.int .u64 0, .int .u64 0]) (by simp [results, Try.results20, go_sem]) rfl ⟨rfl, by repeat (first | exact Below.refl _ _ | refine Below.alloc ?_ (by simp; try omega) _ | refine Below.setCell ?_ (by simp) _)⟩
theorem fMul_none (n a b : Int) (h : NoField n) (w : World) : Calls Try.prog 21 #[.int .u8 n, .agg #[.int .u64 (lo a), .int .u64 (hi a)], .agg #[.int .u64 (lo b), .int .u64 (hi b)]] w fun e w' => e = .returned (.agg #[.int .u64 0, .int .u64 0]) ∧ Below w.heap.size w w' := by
  obtain ⟨h1, h2⟩ := h
  go_enter Try.func21, Try.ntmps21
  go_wp2
  exact bodyPost_ret (v := .agg #[.int .u64 0, .int .u64 0]) (by simp [results, Try.results21, go_sem]) rfl ⟨rfl, by repeat (first | exact Below.refl _ _ | refine Below.alloc ?_ (by simp; try omega) _ | refine Below.setCell ?_ (by simp) _)⟩
theorem fNeg_none (n a : Int) (h : NoField n) (w : World) : Calls Try.prog 25 #[.int .u8 n, .agg #[.int .u64 (lo a), .int .u64 (hi a)]] w fun e w' => e = .returned (.agg #[.int .u64 0, .int .u64 0]) ∧ Below w.heap.size w w' := by
  obtain ⟨h1, h2⟩ := h
  go_enter Try.func25, Try.ntmps25
  go_wp2
  exact bodyPost_ret (v := .agg #[.int .u64 0, .int .u64 0]) (by simp [results, Try.results25, go_sem]) rfl ⟨rfl, by repeat (first | exact Below.refl _ _ | refine Below.alloc ?_ (by simp; try omega) _ | refine Below.setCell ?_ (by simp) _)⟩
end Go.Proofs.Ytailpfbdanhpmaa
