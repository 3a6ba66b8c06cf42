/-
  Any number to any power is the document's; by what gold's Inv says a number is 1, and of 0 it says that there is none.
-/
import Derived.Test.YtnlnbikiocdpdaaDoorGoldC
import Derived.Test.YtnlnbikiocdpdaaDoorPrime
namespace Go.Proofs.YtnlnbikiocdpdaaDoor
open Go.ChangeShapes Go.WideShapes Go.ChangeAt Go.RowKit F Flow
set_option linter.unusedVariables false
attribute [local go_sem] eql_elem

theorem mulR (a b : Int) (h0 : 0 ≤ a) (h1 : a < 18446744073709551616) (h2 : 0 ≤ b) (h3 : b < 18446744073709551616) (w : World) :
    Calls Tryd.prog 26 #[.int .i64 1, .agg #[.int .u64 a, .int .u64 0], .agg #[.int .u64 b, .int .u64 0]] w fun e w' => e = .returned (.agg #[.int .u64 (mul 1 a b), .int .u64 0]) ∧ Below w.heap.size w w' := by
  have h := mul_any 1 a b h0 (by omega) h2 (by omega) w
  have hr := mul_bound 1 a b
  rw [M1] at hr
  rwa [lo_of_lt h0 h1, hi_of_lt h0 h1, lo_of_lt h2 h3, hi_of_lt h2 h3, lo_of_lt hr.1 (by omega), hi_of_lt hr.1 (by omega)] at h

/-- Fermat, of the small field. -/
theorem inv_one {a : Int} (h0 : 0 ≤ a) (h1 : a < 18446744073709551616) (hz : redu 1 a ≠ 0) : mul 1 a (pow 1 a 18446744069414584319) = 1 := by
  have hb := redu_nonneg 1 a
  have hl := redu_lt 1 a
  have hp := pow_bound 1 a 18446744069414584319
  have e : mul 1 a (pow 1 a 18446744069414584319) = redu 1 a ^ 18446744069414584320 % M 1 := by
    rw [show mul 1 a (pow 1 a 18446744069414584319) = redu 1 a * redu 1 (pow 1 a 18446744069414584319) % M 1 from rfl, redu_of_lt hp.1 hp.2]
    rw [show pow 1 a 18446744069414584319 = redu 1 a ^ 18446744069414584319 % M 1 from rfl, Int.mul_emod, Int.emod_emod, ← Int.mul_emod, Int.mul_comm, ← Int.pow_succ]
  rw [e]
  rw [M1] at *
  obtain ⟨n, hn⟩ := Int.eq_ofNat_of_zero_le hb
  rw [hn] at hz hl ⊢
  have hnd : ¬ 18446744069414584321 ∣ n := fun h => by
    have := Nat.le_of_dvd (by omega) h
    omega
  have hf := Prime.fermat_one Prime.small_prime hnd
  rw [show (18446744069414584321 : Int) = ((18446744069414584321 : Nat) : Int) from rfl, ← Int.natCast_pow, ← Int.natCast_emod]
  rw [show 18446744069414584321 - 1 = 18446744069414584320 from rfl] at hf
  rw [hf]
  rfl

theorem ginv_zero (a : Int) (h0 : 0 ≤ a) (h1 : a < 18446744073709551616) (hz : redu 1 a = 0) (w : World) :
    Calls Tryd.prog 43 #[.int .u64 a] w fun e w' => e = .returned (.tuple #[.int .u64 0, .int .i64 8]) ∧ Below w.heap.size w w' := by
  have hd : (redu 1 a == 0) = true := by simpa using hz
  clear hz
  have hb := Below.refl w.heap.size w
  go_enter Tryd.func43, Tryd.ntmps43
  go_wp2_with (first
    | (go_at_call 45; refine (gof_any a h0 h1 _).mono ?_; rintro e w' ⟨rfl, rfl⟩)
    )
  go_ret2
  exact ⟨rfl, hb⟩
theorem ginv_other (a : Int) (h0 : 0 ≤ a) (h1 : a < 18446744073709551616) (hz : redu 1 a ≠ 0) (w : World) :
    Calls Tryd.prog 43 #[.int .u64 a] w fun e w' => e = .returned (.tuple #[.int .u64 (pow 1 a 18446744069414584319), .int .i64 0]) ∧ Below w.heap.size w w' := by
  have hd : (redu 1 a == 0) = false := by simpa using hz
  have hp := gpow_any a 18446744069414584319 h0 h1 (by omega) (by omega)
  rw [show (18446744069414584319 : Int).toNat = 18446744069414584319 from rfl] at hp
  replace hp := Lib.hid hp
  clear hz
  have hb := Below.refl w.heap.size w
  go_enter Tryd.func43, Tryd.ntmps43
  go_wp2_with (first
    | (go_at_call 45; refine (gof_any a h0 h1 _).mono ?_; rintro e w' ⟨rfl, rfl⟩)
    | (go_at_call 56; refine call_then (hp.out _) ?_; intro wn hwn; replace hb := below_next hb hb.size hwn; clear hwn)
    )
  go_ret2
  exact ⟨rfl, hb⟩

end Go.Proofs.YtnlnbikiocdpdaaDoor
