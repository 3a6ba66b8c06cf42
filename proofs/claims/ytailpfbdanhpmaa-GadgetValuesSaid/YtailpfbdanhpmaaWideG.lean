/-
  Contracts of package wide: powers.
-/
import Derived.Test.YtailpfbdanhpmaaWideF
namespace Go.Proofs.Ytailpfbdanhpmaa
open Go.RowKit F Flow
set_option linter.unusedVariables false
attribute [local go_sem] eql_elem

/-- What a power's loop knows, in the large field. -/
def WInv (a n p b m : Int) : Prop := p * redu 2 b ^ m.toNat % M 2 = pow 2 a n.toNat ∧ 0 ≤ p ∧ p < M 2 ∧ 0 ≤ b ∧ b < 340282366920938463463374607431768211456 ∧ 0 ≤ m ∧ m < 340282366920938463463374607431768211456
theorem winv_start {a n : Int} (h0 : 0 ≤ a) (h1 : a < 340282366920938463463374607431768211456) (h2 : 0 ≤ n) (h3 : n < 340282366920938463463374607431768211456) : WInv a n 1 a n :=
  ⟨by unfold pow; rw [Int.one_mul], by omega, by rw [M2]; omega, h0, h1, h2, h3⟩
theorem winv_end {a n p b : Int} (h : WInv a n p b 0) : p = pow 2 a n.toNat := by
  obtain ⟨h1, h2, h3, _⟩ := h
  rw [← h1, show (0 : Int).toNat = 0 by omega, Int.pow_zero, Int.mul_one, Int.emod_eq_of_lt h2 h3]
theorem wsquare_pow (b : Int) (k : Nat) : redu 2 (mul 2 b b) ^ k % M 2 = redu 2 b ^ (2 * k) % M 2 := by
  have h := mul_bound 2 b b
  rw [redu_small (by decide) h.1 h.2]
  unfold mul
  rw [pow_emod, Int.pow_mul, Int.pow_succ, Int.pow_succ, Int.pow_zero, Int.one_mul]
theorem winv_even {a n p b m : Int} (h : WInv a n p b m) (he : m % 2 = 0) : WInv a n p (mul 2 b b) (m / 2) := by
  obtain ⟨h1, h2, h3, h4, h5, h6, h7⟩ := h
  have hb := mul_bound 2 b b
  refine ⟨?_, h2, h3, hb.1, by rw [M2] at hb; omega, by omega, by omega⟩
  rw [← h1, Int.mul_emod, wsquare_pow, ← Int.mul_emod]
  congr 3
  omega
theorem winv_odd {a n p b m : Int} (h : WInv a n p b m) (ho : m % 2 = 1) : WInv a n (mul 2 p b) (mul 2 b b) (m / 2) := by
  obtain ⟨h1, h2, h3, h4, h5, h6, h7⟩ := h
  have hb := mul_bound 2 b b
  have hp := mul_bound 2 p b
  refine ⟨?_, hp.1, hp.2, hb.1, by rw [M2] at hb; omega, by omega, by omega⟩
  rw [← h1, Int.mul_emod, wsquare_pow, ← Int.mul_emod]
  conv => lhs; unfold mul
  rw [redu_small (by decide) h2 h3, Int.mul_emod, Int.emod_emod, ← Int.mul_emod, Int.mul_assoc, ← Int.pow_succ']
  congr 3
  omega
theorem MulInv.putx {w : World} {x y z : Int} {b : Nat} {w1 : World} (z' : Int) (h : MulInv w x y z b w1) (hb : w.heap.size + 1 + 1 < b) :
    MulInv w z' y z b ((w1.setCell ⟨w.heap.size, 0, none⟩ (.int .u64 (lo z'))).setCell ⟨w.heap.size, 1, none⟩ (.int .u64 (hi z'))) :=
  ⟨below_store2 h.1 (by omega), store2 h.2.1, store2_far h.2.2.1 (by omega), store2_far h.2.2.2.1 (by omega), store2_far h.2.2.2.2 (by omega)⟩
theorem MulInv.puty {w : World} {x y z : Int} {b : Nat} {w1 : World} (z' : Int) (h : MulInv w x y z b w1) (hb : w.heap.size + 1 + 1 < b) :
    MulInv w x z' z b ((w1.setCell ⟨w.heap.size + 1, 0, none⟩ (.int .u64 (lo z'))).setCell ⟨w.heap.size + 1, 1, none⟩ (.int .u64 (hi z'))) :=
  ⟨below_store2 h.1 (by omega), store2_far h.2.1 (by omega), store2 h.2.2.1, store2_far h.2.2.2.1 (by omega), store2_far h.2.2.2.2 (by omega)⟩
/-- The number that a block of two words holds. -/
def inner2 (b : Nat) (w : World) : Nat :=
  match w.heap[b]? with
  | some (.cells c _ _) => (val (intOf (c.getD 0 undef)) (intOf (c.getD 1 undef))).toNat
  | _ => 0
theorem inner2_of {b : Nat} {w : World} {x : Int} {t : TypeId} (h : w.heap[b]? = some (.cells #[.int .u64 (lo x), .int .u64 (hi x)] t (0, 0))) : inner2 b w = x.toNat := by
  unfold inner2; rw [h]; show (val (lo x) (hi x)).toNat = _; rw [val_lohi]

end Go.Proofs.Ytailpfbdanhpmaa
