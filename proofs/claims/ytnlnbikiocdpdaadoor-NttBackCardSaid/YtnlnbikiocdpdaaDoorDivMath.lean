/-
  Plain arithmetic of a division of two words by 2^64 - 2^32 + 1, digit by digit of 32 bits.
-/
import Derived.WalkKit
import Derived.Laws.Bits64b
namespace Go.Proofs.YtnlnbikiocdpdaaDoor.F
set_option linter.unusedVariables false

/-- One digit of the quotient, and what is left. -/
def dq (a d : Int) : Int := (a * 4294967296 + d) / 18446744069414584321
def dr (a d : Int) : Int := (a * 4294967296 + d) % 18446744069414584321
/-- What the search for a digit knows. -/
def DInv (a d q r : Int) : Prop := dq a d ≤ q ∧ q ≤ 4294967296 ∧ a = q * 4294967295 + r ∧ 0 ≤ r ∧ r < 4294967296 ∧ 0 ≤ q
theorem dinv_start {a d : Int} (h0 : 0 ≤ a) (h1 : a < 18446744069414584321) (h2 : 0 ≤ d) (h3 : d < 4294967296) : DInv a d (a / 4294967295) (a % 4294967295) := by
  unfold DInv dq; omega
theorem dinv_next {a d q r : Int} (h : DInv a d q r) (h1 : a < 18446744069414584321) (h2 : 0 ≤ d) (h3 : d < 4294967296) (ht : 4294967296 ≤ q ∨ 4294967296 * r + d < q) (hr : r + 4294967295 < 4294967296) : DInv a d (q - 1) (r + 4294967295) := by
  unfold DInv dq at *; omega
theorem dinv_break {a d q r : Int} (h : DInv a d q r) (h1 : a < 18446744069414584321) (h2 : 0 ≤ d) (h3 : d < 4294967296) (ht : 4294967296 ≤ q ∨ 4294967296 * r + d < q) (hr : 4294967296 ≤ r + 4294967295) : q - 1 = dq a d := by
  unfold DInv dq at *; omega
theorem dinv_end {a d q r : Int} (h : DInv a d q r) (h2 : 0 ≤ d) (h3 : d < 4294967296) (hq : q < 4294967296) (ht : q ≤ 4294967296 * r + d) : q = dq a d := by
  unfold DInv dq at *; omega
theorem dinv_pos {a d q r : Int} (h : DInv a d q r) (h2 : 0 ≤ d) (h0 : 0 ≤ a) (ht : 4294967296 ≤ q ∨ 4294967296 * r + d < q) : 1 ≤ q := by
  unfold DInv dq at *; omega
theorem dr_bound (a d : Int) : 0 ≤ dr a d ∧ dr a d < 18446744069414584321 := by unfold dr; omega
theorem dq_bound {a d : Int} (h0 : 0 ≤ a) (h1 : a < 18446744069414584321) (h2 : 0 ≤ d) (h3 : d < 4294967296) : 0 ≤ dq a d ∧ dq a d < 4294967296 := by unfold dq; omega
theorem wrap_rest (a d : Int) : IntKind.u64.wrap (IntKind.u64.wrap (IntKind.u64.wrap (a * 4294967296) + d) - IntKind.u64.wrap (dq a d * 18446744069414584321)) = dr a d := by
  simp only [IntKind.wrap_u64]; unfold dq dr; omega
theorem dinv_shape {a : Int} (h0 : 0 ≤ a) (h1 : a < 18446744069414584321) : IntKind.u64.wrap (a.tdiv 4294967295) = a / 4294967295 ∧ IntKind.u64.wrap (a - IntKind.u64.wrap (a / 4294967295 * 4294967295)) = a % 4294967295 := by
  rw [Int.tdiv_eq_ediv_of_nonneg h0]
  simp only [IntKind.wrap_u64]
  omega
theorem div_two (a b : Int) : dq a (b / 4294967296) * 4294967296 + dq (dr a (b / 4294967296)) (b % 4294967296) = (a * 18446744073709551616 + b) / 18446744069414584321 ∧
    dr (dr a (b / 4294967296)) (b % 4294967296) = (a * 18446744073709551616 + b) % 18446744069414584321 := by
  unfold dq dr; omega
theorem and_low {b : Int} (h0 : 0 ≤ b) (h1 : b < 18446744073709551616) : bits .and .u64 b 4294967295 = b % 4294967296 := by
  obtain ⟨n, rfl⟩ := Int.eq_ofNat_of_zero_le h0
  have h := bits_and_u64_nat n 4294967295 (by omega) (by omega)
  have e : n &&& 4294967295 = n % 4294967296 := Nat.and_two_pow_sub_one_eq_mod n 32
  rw [e] at h
  exact h
theorem and_P : bits .and .u64 18446744069414584321 4294967295 = 1 := by
  rw [and_low (by omega) (by omega)]; rfl
theorem or_none {a b : Int} (h0 : 0 ≤ a) (h1 : a < 18446744073709551616) (h2 : 0 ≤ b) (h3 : b < 18446744073709551616) : bits .or .u64 a (b / 18446744073709551616) = a := by
  rw [show b / 18446744073709551616 = 0 from by omega]
  obtain ⟨n, rfl⟩ := Int.eq_ofNat_of_zero_le h0
  have h := bits_or_u64_nat n 0 (by omega) (by omega)
  rw [Nat.or_zero] at h
  exact h
end Go.Proofs.YtnlnbikiocdpdaaDoor.F
