/-
  Any order: gold's root of 1 is of just that order, and the document's; of no other order there is one.
-/
import Derived.Test.YtnlnbikiocdpdaaDoorGoldPowers
namespace Go.Proofs.YtnlnbikiocdpdaaDoor
open Go.ChangeShapes Go.WideShapes Go.ChangeAt Go.RowKit F Flow
set_option linter.unusedVariables false
attribute [local go_sem] eql_elem

theorem wf_i64 {a : Int} (h : (Lit.int .i64 a).wf = true) : -9223372036854775808 ≤ a ∧ a ≤ 9223372036854775807 := by
  simpa [Lit.wf, IntKind.min, IntKind.max, IntKind.signed, IntKind.bits] using h

theorem groot_none (log : Int) (h : log < 0 ∨ 32 < log) (w : World) :
    Calls Tryd.prog 38 #[.int .i64 log] w fun e w' => e = .returned (.tuple #[.int .u64 0, .int .i64 6]) ∧ Below w.heap.size w w' := by
  by_cases h0 : log < 0
  · clear h
    go_enter Tryd.func38, Tryd.ntmps38
    go_wp2
    go_ret2
    exact ⟨rfl, Below.refl _ _⟩
  · have h1 : 32 < log := by omega
    clear h
    go_enter Tryd.func38, Tryd.ntmps38
    go_wp2
    go_ret2
    exact ⟨rfl, Below.refl _ _⟩

theorem exp_bound (n : Nat) : (0 : Int) ≤ 18446744069414584320 / 2 ^ n ∧ (18446744069414584320 : Int) / 2 ^ n < 18446744073709551616 := by
  have h := half_bound (x := 18446744069414584320) (by omega) n
  omega

theorem groot_some (log : Int) (h0 : 0 ≤ log) (h1 : log ≤ 32) (w : World) :
    Calls Tryd.prog 38 #[.int .i64 log] w fun e w' => e = .returned (.tuple #[.int .u64 (pow 1 7 (18446744069414584320 / 2 ^ log.toNat : Int).toNat), .int .i64 0]) ∧ Below w.heap.size w w' := by
  have hb := Below.refl w.heap.size w
  have he := exp_bound log.toNat
  have hp := Lib.hid (gpow_any 7 (18446744069414584320 / 2 ^ log.toNat) (by omega) (by omega) he.1 he.2)
  clear he
  go_enter Tryd.func38, Tryd.ntmps38
  go_wp2_with (first
    | (go_at_call 56; refine call_then (hp.out _) ?_; intro wn hwn; replace hb := below_next hb hb.size hwn; clear hwn)
    )
  go_ret2
  exact ⟨rfl, hb⟩

theorem pow_nat (a n : Nat) (ha : a < 18446744069414584321) : pow 1 a n = ((a ^ n % 18446744069414584321 : Nat) : Int) := by
  unfold pow
  rw [gredu_small (by omega) (by omega), M1, Int.natCast_emod, Int.natCast_pow]
  rfl
theorem pow_val (n v f : Nat) (hf : n < 2 ^ f) (h : Prime.pmF 18446744069414584321 7 f n = v) : pow 1 7 n = (v : Int) := by
  rw [← h, Prime.pmF_eq _ _ f n hf]
  exact pow_nat 7 n (by omega)
theorem pow_half : pow 1 7 9223372034707292160 = 18446744069414584320 := pow_val 9223372034707292160 18446744069414584320 64 (by decide) (by decide +kernel)
theorem pow_whole : pow 1 7 18446744069414584320 = 1 := pow_val 18446744069414584320 1 64 (by decide) (by decide +kernel)
theorem exp_halves : ∀ L : Fin 33, 1 ≤ L.val → (18446744069414584320 / 2 ^ L.val : Int).toNat * 2 ^ (L.val - 1) = 9223372034707292160 := by decide
theorem square_one (n k : Nat) : mul 1 (pow 1 7 (n * 2 ^ k)) (pow 1 7 (n * 2 ^ k)) = pow 1 7 (n * 2 ^ (k + 1)) := by
  rw [mul_pow, Nat.pow_succ, ← Nat.mul_two, Nat.mul_assoc]

end Go.Proofs.YtnlnbikiocdpdaaDoor
