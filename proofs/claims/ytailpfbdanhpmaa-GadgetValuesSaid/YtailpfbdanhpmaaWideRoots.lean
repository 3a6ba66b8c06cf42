/-
  Any order: wide's root of 1 is of just that order; of no other order there is one.
-/
import Derived.Test.YtailpfbdanhpmaaWidePowers
import Derived.Test.YtailpfbdanhpmaaGoldRoots
namespace Go.Proofs.Ytailpfbdanhpmaa
open Go.ChangeShapes Go.WideShapes Go.ChangeAt Go.RowKit F Flow
set_option linter.unusedVariables false
attribute [local go_sem] eql_elem

theorem wexp_bound (n : Nat) : (0 : Int) ≤ 340282366920938462946865773367900766208 / 2 ^ n ∧ (340282366920938462946865773367900766208 : Int) / 2 ^ n < 340282366920938463463374607431768211456 := by
  have h := half_bound (x := 340282366920938462946865773367900766208) (by omega) n
  omega

theorem wpow_nat (a n : Nat) (ha : a < 340282366920938462946865773367900766209) : pow 2 a n = ((a ^ n % 340282366920938462946865773367900766209 : Nat) : Int) := by
  unfold pow
  rw [redu_small (by decide) (by omega) (by rw [M2]; omega), M2, Int.natCast_emod, Int.natCast_pow]
  rfl
theorem wpow_val (n v f : Nat) (hf : n < 2 ^ f) (h : Prime.pmF 340282366920938462946865773367900766209 7 f n = v) : pow 2 7 n = (v : Int) := by
  rw [← h, Prime.pmF_eq _ _ f n hf]
  exact wpow_nat 7 n (by omega)
theorem wpow_half : pow 2 7 170141183460469231473432886683950383104 = 340282366920938462946865773367900766208 := wpow_val 170141183460469231473432886683950383104 340282366920938462946865773367900766208 128 (by decide +kernel) (by decide +kernel)
theorem wpow_whole : pow 2 7 340282366920938462946865773367900766208 = 1 := wpow_val 340282366920938462946865773367900766208 1 128 (by decide +kernel) (by decide +kernel)
theorem wexp_halves : ∀ L : Fin 67, 1 ≤ L.val → (340282366920938462946865773367900766208 / 2 ^ L.val : Int).toNat * 2 ^ (L.val - 1) = 170141183460469231473432886683950383104 := by decide +kernel
theorem wsquare_one (n k : Nat) : mul 2 (pow 2 7 (n * 2 ^ k)) (pow 2 7 (n * 2 ^ k)) = pow 2 7 (n * 2 ^ (k + 1)) := by
  rw [mul_pow, Nat.pow_succ, ← Nat.mul_two, Nat.mul_assoc]

end Go.Proofs.Ytailpfbdanhpmaa
