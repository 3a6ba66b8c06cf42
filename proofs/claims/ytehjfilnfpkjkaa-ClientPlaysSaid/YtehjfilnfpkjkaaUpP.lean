/-
  A client: answers that can't be.
-/
import Derived.Test.YtehjfilnfpkjkaaUpO
namespace Go.Proofs.Ytehjfilnfpkjkaa
open Go.RowKit Flow
set_option linter.unusedVariables false
set_option linter.unusedSimpArgs false

theorem recv_range (q : Nat) (fr : Int) (h0 : fr ≠ 0) (h1 : fr ≠ 1) (m : Array Value) (w : World) : Calls Try.prog 10 #[.pointer (some ⟨q, 0, none⟩), .int .i64 fr, .agg m] w fun e w' => e = .returned (.int .i64 6) ∧ Below w.heap.size w w' := by
  have e0 : (fr == 0) = false := by rw [beq_eq_false_iff_ne]; exact h0
  have e1 : (fr == 1) = false := by rw [beq_eq_false_iff_ne]; exact h1
  have e2 : (fr != 0) = true := by simp [h0]
  have e3 : (fr != 1) = true := by simp [h1]
  go_enter Try.func10, Try.ntmps10
  go_wp2
  go_ret
  exact ⟨rfl, (Below.refl w.heap.size w).alloc (Nat.le_refl _) _⟩
theorem recv_kind (q : Nat) (fr : Int) (hfr : fr = 0 ∨ fr = 1) (cs : List Value) (kd : Int) (A : Option Addr) (n c : Nat) (hk : cs[0]? = some (.int .u8 kd)) (h21 : cs[21]? = some (.slice A n c)) (hbad : kd ≠ 7 ∨ n ≠ 1) (w : World) :
    Calls Try.prog 10 #[.pointer (some ⟨q, 0, none⟩), .int .i64 fr, .agg cs.toArray] w fun e w' => e = .returned (.int .i64 10) ∧ Below w.heap.size w w' := by
  skip
  rcases hfr with rfl | rfl
  · skip
    go_enter Try.func10, Try.ntmps10
    go_upto_region 1 with (fail)
    refine name_wp (fun w1 => Below w.heap.size w w1 ∧ w1.heap[w.heap.size]? = some (.cells cs.toArray 27 (0, 0))) ⟨(Below.refl _ _).alloc (Nat.le_refl _) _, alloc_at rfl⟩ ?_
    rintro w1 ⟨hb, km⟩
    have c0 : w1.cell? ⟨w.heap.size, 0, none⟩ = some (.int .u8 kd) := by
      have := At0.of_block km 0 _ hk
      simpa using this
    have c21 : w1.cell? ⟨w.heap.size, 21, none⟩ = some (.slice A n c) := by
      have := At0.of_block km 21 _ h21
      simpa using this
    clear km hk h21
    by_cases h7 : kd = 7
    · subst h7
      have hn1 : ((n : Int) != 1) = true := by
        have : n ≠ 1 := by rcases hbad with h | h; exact absurd rfl h; exact h
        simp
        omega
      have hn2 : ((n : Int) == 1) = false := by simpa using hn1
      clear hbad
      go_wp2
      go_ret
      exact ⟨rfl, hb⟩
    · have hk1 : (kd != 7) = true := by simp [h7]
      have hk2 : (kd == 7) = false := by simp [h7]
      clear hbad
      go_wp2
      go_ret
      exact ⟨rfl, hb⟩
  · skip
    go_enter Try.func10, Try.ntmps10
    go_upto_region 1 with (fail)
    refine name_wp (fun w1 => Below w.heap.size w w1 ∧ w1.heap[w.heap.size]? = some (.cells cs.toArray 27 (0, 0))) ⟨(Below.refl _ _).alloc (Nat.le_refl _) _, alloc_at rfl⟩ ?_
    rintro w1 ⟨hb, km⟩
    have c0 : w1.cell? ⟨w.heap.size, 0, none⟩ = some (.int .u8 kd) := by
      have := At0.of_block km 0 _ hk
      simpa using this
    have c21 : w1.cell? ⟨w.heap.size, 21, none⟩ = some (.slice A n c) := by
      have := At0.of_block km 21 _ h21
      simpa using this
    clear km hk h21
    by_cases h7 : kd = 7
    · subst h7
      have hn1 : ((n : Int) != 1) = true := by
        have : n ≠ 1 := by rcases hbad with h | h; exact absurd rfl h; exact h
        simp
        omega
      have hn2 : ((n : Int) == 1) = false := by simpa using hn1
      clear hbad
      go_wp2
      go_ret
      exact ⟨rfl, hb⟩
    · have hk1 : (kd != 7) = true := by simp [h7]
      have hk2 : (kd == 7) = false := by simp [h7]
      clear hbad
      go_wp2
      go_ret
      exact ⟨rfl, hb⟩
end Go.Proofs.Ytehjfilnfpkjkaa
