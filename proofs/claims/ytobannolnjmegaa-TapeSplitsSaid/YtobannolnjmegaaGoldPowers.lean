/-
  Any number to any power is the document's; by what gold's Inv says a number is 1, and of 0 it says that there is none.
-/
import Derived.Test.YtobannolnjmegaaGoldC
import Derived.Test.YtobannolnjmegaaPrime
namespace Go.Proofs.Ytobannolnjmegaa
open Go.ChangeShapes Go.WideShapes Go.ChangeAt Go.RowKit F Flow
set_option linter.unusedVariables false
attribute [local go_sem] eql_elem

/-- Fermat, of the small field. -/
theorem inv_one {a : Int} (h0 : 0 ≤ a) (h1 : a < 18446744073709551616) (hz : redu 1 a ≠ 0) : mul 1 a (pow 1 a 18446744069414584319) = 1 := by
  have hb := redu_nonneg 1 a
  have hl := redu_lt 1 a
  have hp := pow_bound 1 a 18446744069414584319
  have e : mul 1 a (pow 1 a 18446744069414584319) = redu 1 a ^ 18446744069414584320 % M 1 := by
    rw [show mul 1 a (pow 1 a 18446744069414584319) = redu 1 a * redu 1 (pow 1 a 18446744069414584319) % M 1 from rfl, redu_of_lt hp.1 hp.2]
    rw [show pow 1 a 18446744069414584319 = redu 1 a ^ 18446744069414584319 % M 1 from rfl, Int.mul_emod, Int.emod_emod, ← Int.mul_emod, Int.mul_comm, ← Int.pow_succ]
  rw [e]
  rw [M1] at *
  obtain ⟨n, hn⟩ := Int.eq_ofNat_of_zero_le hb
  rw [hn] at hz hl ⊢
  have hnd : ¬ 18446744069414584321 ∣ n := fun h => by
    have := Nat.le_of_dvd (by omega) h
    omega
  have hf := Prime.fermat_one Prime.small_prime hnd
  rw [show (18446744069414584321 : Int) = ((18446744069414584321 : Nat) : Int) from rfl, ← Int.natCast_pow, ← Int.natCast_emod]
  rw [show 18446744069414584321 - 1 = 18446744069414584320 from rfl] at hf
  rw [hf]
  rfl

end Go.Proofs.Ytobannolnjmegaa
