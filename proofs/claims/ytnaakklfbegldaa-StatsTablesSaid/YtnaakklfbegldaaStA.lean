/-
  Numbers with a fraction: near; within ends; just the same.
-/
import Derived.Test.YtnaakklfbegldaaStSub
import Derived.Laws.BitsAll
namespace Go.Proofs.Ytnaakklfbegldaa
open Go.RowKit Flow
set_option linter.unusedVariables false
attribute [local go_sem] bits_run from_run

def leF (x k : Nat) : Bool := od x k == some .lt || od x k == some .eq
/-- Is what lies between two numbers at most so much? -/
def nearB (a b k : Nat) : Bool := match subF a b with
  | none => false
  | some r => leF (r % 9223372036854775808) k
def nearF (a b k : Nat) : Bool := sameF a b || nearB a b k
structure SubsTo (a b r : Nat) : Prop where
  lt : r < 18446744073709551616
  is : subF a b = some r ∨ (subF a b = none ∧ 9218868437227405312 < r % 9223372036854775808)
theorem run_sub (a b : Nat) (w : World) : ∃ r w', (binOp .sub 35 (.float .f64 a) (.float .f64 b)).run Try.prog w = .ok (.float .f64 r) w' ∧ Below w.heap.size w w' ∧ SubsTo a b r := by
  cases h : subF a b with
  | some r => exact ⟨r, w, run_float_arith w .sub _ .f64 a b r h, Below.refl _ _, sub_small h, .inl h⟩
  | none =>
    have h' : FloatKind.f64.format.sub a b = none := h
    refine ⟨Question.cut (.nanBits .f64 a b) (w.tape w.drawn (.nanBits .f64 a b)), w.drew, ?_, (Below.refl _ w).drew, ?_, .inr ⟨h, ?_⟩⟩
    · simp [binOp, Op.floatArith, h', Question.forced]
    · simp only [Question.cut]
      have h1 := Nat.mod_lt (w.tape w.drawn (.nanBits .f64 a b)) (show 0 < 2 by decide)
      have h2 := Nat.mod_lt (w.tape w.drawn (.nanBits .f64 a b) / 2) (show 0 < 2 ^ 52 - 1 by decide)
      generalize w.tape w.drawn (.nanBits .f64 a b) % 2 = u at *
      generalize w.tape w.drawn (.nanBits .f64 a b) / 2 % (2 ^ 52 - 1) = v at *
      omega
    · simp only [Question.cut]
      have h1 := Nat.mod_lt (w.tape w.drawn (.nanBits .f64 a b)) (show 0 < 2 by decide)
      have h2 := Nat.mod_lt (w.tape w.drawn (.nanBits .f64 a b) / 2) (show 0 < 2 ^ 52 - 1 by decide)
      generalize w.tape w.drawn (.nanBits .f64 a b) % 2 = u at *
      generalize w.tape w.drawn (.nanBits .f64 a b) / 2 % (2 ^ 52 - 1) = v at *
      omega
theorem leF_nan {r k : Nat} (h : 9218868437227405312 < r % 9223372036854775808) : leF r k = false := by
  obtain ⟨s, t, e⟩ := read_nan r h
  have : od r k = none := by
    show (Ieee.double.read r).order (Ieee.double.read k) = none
    rw [e, order_nan1 _ _ rfl]
  unfold leF
  rw [this]
  rfl
theorem SubsTo.near {a b r : Nat} (h : SubsTo a b r) (k : Nat) : leF (r % 9223372036854775808) k = nearB a b k := by
  unfold nearB
  rcases h.is with e | ⟨e, hn⟩
  · rw [e]
  · rw [e]
    exact leF_nan (by omega)
theorem flip_sign {r : Nat} (h0 : 9223372036854775808 ≤ r) (h : r < 18446744073709551616) : r ^^^ 9223372036854775808 = r % 9223372036854775808 := by
  have h1 : (r ^^^ 2 ^ 63) % 2 ^ 63 = r % 2 ^ 63 ^^^ 2 ^ 63 % 2 ^ 63 := Nat.xor_mod_two_pow
  have h2 : (r ^^^ 2 ^ 63) / 2 ^ 63 = r / 2 ^ 63 ^^^ 2 ^ 63 / 2 ^ 63 := Nat.xor_div_two_pow
  rw [show (2 ^ 63 % 2 ^ 63 : Nat) = 0 by decide, Nat.xor_zero] at h1
  rw [show r / 2 ^ 63 = 1 by omega, show (1 ^^^ 2 ^ 63 / 2 ^ 63 : Nat) = 0 by decide] at h2
  show r ^^^ 2 ^ 63 = _
  generalize r ^^^ 2 ^ 63 = q at *
  omega
/-- What lies between, made positive by hand. -/
def apart (r : Nat) : Nat := if od r 0 == some .lt then r ^^^ 9223372036854775808 else r
theorem SubsTo.apart {a b r : Nat} (h : SubsTo a b r) (k : Nat) : leF (apart r) k = nearB a b k := by
  rw [← h.near k]
  unfold Proofs.Ytnaakklfbegldaa.apart
  have hm := od_mod r k h.lt
  cases hl : (od r 0 == some .lt) with
  | true =>
    rw [if_pos rfl, flip_sign (hm.1 (by simpa using hl)) h.lt]
  | false =>
    rw [if_neg (by simp)]
    unfold leF
    rw [hm.2 (by simpa using hl)]
theorem nearB_swap (a b k : Nat) : nearB b a k = nearB a b k := by
  unfold nearB
  rcases sub_alike a b with ⟨e1, e2⟩ | ⟨r, s, e1, e2, h⟩
  · rw [e1, e2]
  · rw [e1, e2]
    show leF _ k = leF _ k
    rw [h]
theorem sameF_swap (a b : Nat) : sameF b a = sameF a b := by
  unfold sameF
  rw [od_swap b a, Bool.and_comm]
  cases od a b with
  | none => rfl
  | some o => cases o <;> rfl
theorem nearF_swap (a b k : Nat) : nearF b a k = nearF a b k := by
  unfold nearF
  rw [nearB_swap, sameF_swap]
theorem abs_any (x : Nat) (hx : x < 18446744073709551616) (w : World) : Calls Try.prog 35 #[.float .f64 x] w fun e w' => e = .returned (.float .f64 (x % 9223372036854775808)) ∧ Below w.heap.size w w' := by
  have e : bits .andNot .u64 (x : Int) 9223372036854775808 = ((x % 9223372036854775808 : Nat) : Int) := by
    have h := u64_andNot_nat x 9223372036854775808 hx (by decide)
    rw [show (18446744073709551615 - 9223372036854775808 : Nat) = 9223372036854775807 by decide] at h
    rw [← Nat.and_two_pow_sub_one_eq_mod x 63]
    exact h
  generalize hq : x % 9223372036854775808 = q at *
  clear hq
  replace e := Lib.hid e
  go_enter Try.func35, Try.ntmps35
  go_wp2
  go_ret
  exact ⟨by rw [e.out]; rfl, Below.refl _ _⟩
theorem near_any (a b k : Nat) (w : World) : Calls Try.prog 20 #[.float .f64 a, .float .f64 b, .float .f64 k] w fun e w' => e = .returned (.bool (nearF a b k)) ∧ Below w.heap.size w w' := by
  have hS := same_any a b
  unfold nearF
  generalize sameF a b = s at *
  replace hS := Lib.hid hS
  cases s with
  | true =>
    go_enter Try.func20, Try.ntmps20
    go_wp2_with fail
    refine call_then (hS.out _) ?_
    intro w2 hb
    go_wp2
    go_ret
    exact ⟨rfl, hb⟩
  | false =>
    go_enter Try.func20, Try.ntmps20
    go_wp2_with fail
    refine call_then (hS.out _) ?_
    intro w2 hb
    obtain ⟨r, w3, hr, hb3, hst⟩ := run_sub a b w2
    have hn := Lib.hid (hst.near k)
    have hA := Lib.hid (abs_any r hst.lt)
    clear hst
    generalize r % 9223372036854775808 = q at *
    replace hb := below_next hb hb.size hb3
    clear hb3
    go_wp2_with fail
    refine call_then (hA.out _) ?_
    intro w4 hb4
    replace hb := below_next hb hb.size hb4
    clear hb4
    go_wp2
    go_ret
    exact ⟨by rw [← hn.out]; rfl, hb⟩
theorem none_any (x : Nat) (w : World) : Calls Try.prog 29 #[.float .f64 x] w fun e w' => e = .returned (.bool (isNan x)) ∧ Below w.heap.size w w' := by
  unfold isNan
  go_enter Try.func29, Try.ntmps29
  go_wp2
  go_ret
  exact ⟨rfl, Below.refl _ _⟩
end Go.Proofs.Ytnaakklfbegldaa
