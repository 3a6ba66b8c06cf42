/-
  Numbers with a fraction: the same; which comes first; their bits.
-/
import Derived.Test.YtgmmdhefcijgeaaFloat
namespace Go.Proofs.Ytgmmdhefcijgeaa
open Go.RowKit Flow
set_option linter.unusedVariables false
attribute [local go_sem] bits_run from_run

def sameF (x y : Nat) : Bool := (od x y == some .eq) || (isNan x && isNan y)
def cmpF (x y : Nat) : Int := if sameF x y then 0 else if isNan x || (od x y == some .lt) then -1 else 1
def bitsF (x : Nat) : Nat := if isNan x then 9221120237041090561 else unsig x
theorem same_any (x y : Nat) (w : World) : Calls Try.prog 21 #[.float .f64 x, .float .f64 y] w fun e w' => e = .returned (.bool (sameF x y)) ∧ Below w.heap.size w w' := by
  have h1 := Lib.hid (isnan_any x)
  have h2 := Lib.hid (isnan_any y)
  unfold sameF
  generalize isNan x = n1 at *
  generalize isNan y = n2 at *
  cases h : (od x y == some .eq) with
  | true =>
    go_enter Try.func21, Try.ntmps21
    go_wp2
    go_ret
    exact ⟨rfl, Below.refl _ _⟩
  | false =>
    cases n1 with
    | false =>
      go_enter Try.func21, Try.ntmps21
      go_wp2_with fail
      refine call_then (h1.out _) ?_
      intro w2 hb
      go_wp2
      go_ret
      exact ⟨rfl, hb⟩
    | true =>
      go_enter Try.func21, Try.ntmps21
      go_wp2_with fail
      refine call_then (h1.out _) ?_
      intro w2 hb
      go_wp2_with fail
      refine call_then (h2.out _) ?_
      intro w3 hb3
      replace hb := below_next hb hb.size hb3
      clear hb3
      go_wp2
      go_ret
      exact ⟨by simp, hb⟩
theorem compare_any (x y : Nat) (w : World) : Calls Try.prog 20 #[.float .f64 x, .float .f64 y] w fun e w' => e = .returned (.int .i64 (cmpF x y)) ∧ Below w.heap.size w w' := by
  have h1 := Lib.hid (same_any x y)
  have h2 := Lib.hid (isnan_any x)
  unfold cmpF
  generalize sameF x y = s at *
  generalize isNan x = n at *
  cases s with
  | true =>
    go_enter Try.func20, Try.ntmps20
    go_wp2_with fail
    refine call_then (h1.out _) ?_
    intro w2 hb
    go_wp2
    go_ret
    exact ⟨rfl, hb⟩
  | false =>
    cases n with
    | true =>
      go_enter Try.func20, Try.ntmps20
      go_wp2_with fail
      refine call_then (h1.out _) ?_
      intro w2 hb
      go_wp2_with fail
      refine call_then (h2.out _) ?_
      intro w3 hb3
      replace hb := below_next hb hb.size hb3
      clear hb3
      go_wp2
      go_ret
      exact ⟨rfl, hb⟩
    | false =>
      cases h : (od x y == some .lt) with
      | true =>
        go_enter Try.func20, Try.ntmps20
        go_wp2_with fail
        refine call_then (h1.out _) ?_
        intro w2 hb
        go_wp2_with fail
        refine call_then (h2.out _) ?_
        intro w3 hb3
        replace hb := below_next hb hb.size hb3
        clear hb3
        go_wp2
        go_ret
        exact ⟨rfl, hb⟩
      | false =>
        go_enter Try.func20, Try.ntmps20
        go_wp2_with fail
        refine call_then (h1.out _) ?_
        intro w2 hb
        go_wp2_with fail
        refine call_then (h2.out _) ?_
        intro w3 hb3
        replace hb := below_next hb hb.size hb3
        clear hb3
        go_wp2
        go_ret
        exact ⟨rfl, hb⟩
theorem qbits_any (x : Nat) (w : World) : Calls Try.prog 22 #[.float .f64 x] w fun e w' => e = .returned (.int .u64 (bitsF x)) ∧ Below w.heap.size w w' := by
  have h1 := Lib.hid (isnan_any x)
  have h2 := Lib.hid (unsigned_any x)
  unfold bitsF
  generalize isNan x = n at *
  generalize unsig x = z at *
  cases n with
  | true =>
    go_enter Try.func22, Try.ntmps22
    go_wp2_with fail
    refine call_then (h1.out _) ?_
    intro w2 hb
    go_wp2_with fail
    refine call_then (nan_any _) ?_
    intro w3 hb3
    replace hb := below_next hb hb.size hb3
    clear hb3
    go_wp2
    go_ret
    exact ⟨rfl, hb⟩
  | false =>
    go_enter Try.func22, Try.ntmps22
    go_wp2_with fail
    refine call_then (h1.out _) ?_
    intro w2 hb
    go_wp2_with fail
    refine call_then (h2.out _) ?_
    intro w3 hb3
    replace hb := below_next hb hb.size hb3
    clear hb3
    go_wp2
    go_ret
    exact ⟨rfl, hb⟩
theorem copysign_zero (w : World) : Calls Try.prog 19 #[.float .f64 0, .float .f64 13830554455654793216] w fun e w' => e = .returned (.float .f64 9223372036854775808) ∧ Below w.heap.size w w' := by
  go_enter Try.func19, Try.ntmps19
  go_wp2
  go_ret
  exact ⟨rfl, Below.refl _ _⟩
end Go.Proofs.Ytgmmdhefcijgeaa
