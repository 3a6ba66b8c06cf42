/-
  Any number to any power is the document's; by what wide's Inv says a number is 1, and of 0 it says that there is none.
-/
import Derived.Test.YtailpfbdanhpmaaWideG
import Derived.Test.YtailpfbdanhpmaaPrime
namespace Go.Proofs.Ytailpfbdanhpmaa
open Go.ChangeShapes Go.WideShapes Go.ChangeAt Go.RowKit F Flow
set_option linter.unusedVariables false
attribute [local go_sem] eql_elem

/-- Fermat, of the large field. -/
theorem winv_one {a : Int} (h0 : 0 ≤ a) (hz : redu 2 a ≠ 0) : mul 2 a (pow 2 a 340282366920938462946865773367900766207) = 1 := by
  have hb := redu_nonneg 2 a
  have hl := redu_lt 2 a
  have hp := pow_bound 2 a 340282366920938462946865773367900766207
  have e : mul 2 a (pow 2 a 340282366920938462946865773367900766207) = redu 2 a ^ 340282366920938462946865773367900766208 % M 2 := by
    rw [show mul 2 a (pow 2 a 340282366920938462946865773367900766207) = redu 2 a * redu 2 (pow 2 a 340282366920938462946865773367900766207) % M 2 from rfl, redu_small (by decide) hp.1 hp.2]
    rw [show pow 2 a 340282366920938462946865773367900766207 = redu 2 a ^ 340282366920938462946865773367900766207 % M 2 from rfl, Int.mul_emod, Int.emod_emod, ← Int.mul_emod, Int.mul_comm, ← Int.pow_succ]
  rw [e]
  rw [M2] at *
  obtain ⟨n, hn⟩ := Int.eq_ofNat_of_zero_le hb
  rw [hn] at hz hl ⊢
  have hnd : ¬ 340282366920938462946865773367900766209 ∣ n := fun h => by
    have := Nat.le_of_dvd (by omega) h
    omega
  have hf := Prime.fermat_one Prime.large_prime hnd
  rw [show (340282366920938462946865773367900766209 : Int) = ((340282366920938462946865773367900766209 : Nat) : Int) from rfl, ← Int.natCast_pow, ← Int.natCast_emod]
  rw [show 340282366920938462946865773367900766209 - 1 = 340282366920938462946865773367900766208 from rfl] at hf
  rw [hf]
  rfl

end Go.Proofs.Ytailpfbdanhpmaa
