/-
  The rules of a field, of sums and products modulo a prime.
-/
import Derived.Test.YtklhefbldjhkpaaMath
namespace Go.Proofs.Ytklhefbldjhkpaa.F

theorem mul_emod_r (x y m : Int) : x * (y % m) % m = x * y % m := by rw [Int.mul_emod, Int.emod_emod, ← Int.mul_emod]
theorem mul_emod_l (x y m : Int) : x % m * y % m = x * y % m := by rw [Int.mul_emod, Int.emod_emod, ← Int.mul_emod]
theorem sub_emod_l (x y m : Int) : (x % m - y) % m = (x - y) % m := by rw [Int.sub_emod, Int.emod_emod, ← Int.sub_emod]
theorem add_swap (f a b : Int) : add f b a = add f a b := by unfold add; rw [Int.add_comm]
theorem mul_swap (f a b : Int) : mul f b a = mul f a b := by unfold mul; rw [Int.mul_comm]
theorem redu_mul (f a b : Int) : redu f (mul f a b) = mul f a b := redu_of_lt (mul_bound f a b).1 (mul_bound f a b).2
theorem redu_add (f a b : Int) : redu f (add f a b) = add f a b := redu_of_lt (add_bound f a b).1 (add_bound f a b).2
theorem redu_neg (f a : Int) : redu f (neg f a) = neg f a := redu_of_lt (neg_bound f a).1 (neg_bound f a).2
theorem mul_add (f a b c : Int) : add f (mul f a b) (mul f a c) = mul f a (add f b c) := by
  rw [show ∀ x y, add f x y = (redu f x + redu f y) % M f from fun _ _ => rfl, redu_mul, redu_mul, show ∀ x y, mul f x y = redu f x * redu f y % M f from fun _ _ => rfl]
  rw [show mul f a (add f b c) = redu f a * redu f (add f b c) % M f from rfl, redu_add]
  rw [show mul f a c = redu f a * redu f c % M f from rfl, show add f b c = (redu f b + redu f c) % M f from rfl, mul_emod_r, ← Int.add_emod, Int.mul_add]
theorem mul_assoc (f a b c : Int) : mul f a (mul f b c) = mul f (mul f a b) c := by
  rw [show mul f a (mul f b c) = redu f a * redu f (mul f b c) % M f from rfl, redu_mul, show mul f b c = redu f b * redu f c % M f from rfl, mul_emod_r]
  rw [show mul f (mul f a b) c = redu f (mul f a b) * redu f c % M f from rfl, redu_mul, show mul f a b = redu f a * redu f b % M f from rfl, mul_emod_l, Int.mul_assoc]
theorem add_neg (f a : Int) : add f a (neg f a) = 0 := by
  rw [show add f a (neg f a) = (redu f a + redu f (neg f a)) % M f from rfl, redu_neg, show neg f a = (- redu f a) % M f from rfl, Int.add_emod_emod, Int.add_right_neg, Int.zero_emod]
theorem sub_add (f a b : Int) : sub f (add f a b) b = redu f a := by
  rw [show sub f (add f a b) b = (redu f (add f a b) - redu f b) % M f from rfl, redu_add, show add f a b = (redu f a + redu f b) % M f from rfl, sub_emod_l, Int.add_sub_cancel]
  exact Int.emod_eq_of_lt (redu_nonneg f a) (redu_lt f a)

end Go.Proofs.Ytklhefbldjhkpaa.F
