/-
  Contracts of package field: the rest of one element's.
-/
import Derived.Test.YtobannolnjmegaaFieldA
namespace Go.Proofs.Ytobannolnjmegaa
open Go.RowKit F Flow
set_option linter.unusedVariables false
attribute [local go_sem] eql_elem

theorem fin_one (a : Int) (w : World) :
    Calls Try.prog 24 #[.int .u8 1, .agg #[.int .u64 (lo a), .int .u64 (hi a)]] w fun e w' => e = .returned (.bool (decide (a < M 1) && decide (0 ≤ a))) ∧ Below w.heap.size w w' := by
  by_cases hh : hi a = 0
  · have hd : (decide (a < M 1) && decide (0 ≤ a)) = decide (lo a < 18446744069414584321) := by
      have e : a = lo a := by unfold lo hi at *; omega
      have := lo_nonneg a
      rw [M1, ← e]
      have h0 : 0 ≤ a := by omega
      simp [h0]
    rw [hd]
    generalize lo a = x at *
    generalize hi a = y at *
    subst hh
    go_enter Try.func24, Try.ntmps24
    go_wp2_with fail
    refine name_calls (fun w1 => Below w.heap.size w w1) ((Below.refl _ _).alloc (Nat.le_refl _) _) ?_
    intro w1 b1
    refine call_then ((gin_any x _).mono fun _ _ ⟨he, hw⟩ => ⟨he, below_of_same hw⟩) ?_
    intro w2 hw2
    go_wp2
    go_ret
    exact ⟨rfl, below_next b1 b1.size hw2⟩
  · have hd : (decide (a < M 1) && decide (0 ≤ a)) = false := by
      rw [M1]; unfold hi at hh
      by_cases h0 : 0 ≤ a
      · have : ¬ a < 18446744069414584321 := by omega
        simp [this]
      · simp [h0]
    rw [hd]
    have hc : (hi a == 0) = false := by simpa using hh
    clear hh hd
    go_enter Try.func24, Try.ntmps24
    go_wp2
    go_ret
    exact ⟨rfl, (Below.refl _ _).alloc (Nat.le_refl _) _⟩
theorem fin_two (a : Int) (w : World) :
    Calls Try.prog 24 #[.int .u8 2, .agg #[.int .u64 (lo a), .int .u64 (hi a)]] w fun e w' => e = .returned (.bool (decide (a < M 2))) ∧ Below w.heap.size w w' := by
  go_enter Try.func24, Try.ntmps24
  go_wp2_with fail
  refine name_calls (fun w1 => Below w.heap.size w w1) ((Below.refl _ _).alloc (Nat.le_refl _) _) ?_
  intro w1 b1
  refine call_then (win_any a _) ?_
  intro w2 hw2
  go_wp2
  go_ret
  exact ⟨rfl, below_next b1 b1.size hw2⟩
theorem fvalid_one (w : World) : Calls Try.prog 15 #[.int .u8 1] w fun e w' => e = .returned (.bool true) ∧ Below w.heap.size w w' := by
  go_enter Try.func15, Try.ntmps15
  go_wp2
  go_ret
  exact ⟨rfl, Below.refl _ _⟩
theorem fvalid_two (w : World) : Calls Try.prog 15 #[.int .u8 2] w fun e w' => e = .returned (.bool true) ∧ Below w.heap.size w w' := by
  go_enter Try.func15, Try.ntmps15
  go_wp2
  go_ret
  exact ⟨rfl, Below.refl _ _⟩
theorem F_even (n : Int) (h : n % 2 = 0) (n0 : 0 ≤ n) (n1 : n ≤ 255) (w : World) : Calls Try.prog 7 #[.int .u8 n] w fun e w' => e = .returned (.int .u8 1) ∧ Below w.heap.size w w' := by
  go_enter Try.func7, Try.ntmps7
  go_wp2
  go_ret
  exact ⟨rfl, Below.refl _ _⟩
theorem F_odd (n : Int) (h : n % 2 = 1) (n0 : 0 ≤ n) (n1 : n ≤ 255) (w : World) : Calls Try.prog 7 #[.int .u8 n] w fun e w' => e = .returned (.int .u8 2) ∧ Below w.heap.size w w' := by
  go_enter Try.func7, Try.ntmps7
  go_wp2
  go_ret
  exact ⟨rfl, Below.refl _ _⟩
end Go.Proofs.Ytobannolnjmegaa
