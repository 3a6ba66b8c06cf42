/-
  Sums, differences and products of a field's numbers, as rests.
-/
import Derived.Test.YtaiffgkiliokfaaBA
namespace Go.Proofs.Ytaiffgkiliokfaa
open F
set_option linter.unusedVariables false

theorem em_in (f x : Int) : 0 ≤ x % M f ∧ x % M f < M f := ⟨Int.emod_nonneg _ (by have := M_pos f; omega), Int.emod_lt_of_pos _ (M_pos f)⟩
theorem in_em {f x : Int} (h : 0 ≤ x ∧ x < M f) : x % M f = x := Int.emod_eq_of_lt h.1 h.2
theorem add_in {f a b : Int} (ha : 0 ≤ a ∧ a < M f) (hb : 0 ≤ b ∧ b < M f) : add f a b = (a + b) % M f := by unfold add; rw [redu_of_lt ha.1 ha.2, redu_of_lt hb.1 hb.2]
theorem sub_in {f a b : Int} (ha : 0 ≤ a ∧ a < M f) (hb : 0 ≤ b ∧ b < M f) : sub f a b = (a - b) % M f := by unfold sub; rw [redu_of_lt ha.1 ha.2, redu_of_lt hb.1 hb.2]
theorem mul_in {f a b : Int} (ha : 0 ≤ a ∧ a < M f) (hb : 0 ≤ b ∧ b < M f) : mul f a b = (a * b) % M f := by unfold mul; rw [redu_of_lt ha.1 ha.2, redu_of_lt hb.1 hb.2]
theorem add_mm (f a b : Int) : add f (a % M f) (b % M f) = (a + b) % M f := by rw [add_in (em_in f a) (em_in f b), ← Int.add_emod]
theorem sub_mm (f a b : Int) : sub f (a % M f) (b % M f) = (a - b) % M f := by rw [sub_in (em_in f a) (em_in f b), ← Int.sub_emod]
theorem mul_mm (f a b : Int) : mul f (a % M f) (b % M f) = (a * b) % M f := by rw [mul_in (em_in f a) (em_in f b), ← Int.mul_emod]
theorem in_one (f : Int) : (0 : Int) ≤ 1 ∧ 1 < M f := by unfold M; split <;> omega
theorem in_zero (f : Int) : (0 : Int) ≤ 0 ∧ 0 < M f := by unfold M; split <;> omega
end Go.Proofs.Ytaiffgkiliokfaa
