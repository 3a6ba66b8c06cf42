/-
  Numbers with a fraction: which is which.
-/
import Derived.Test.YtnaakklfbegldaaFlow
import Derived.Test.YtnaakklfbegldaaPost
import Derived.Test.YtnaakklfbegldaaChecked
import Derived.WalkKit
import Derived.ProofKit
import Derived.Outline
import Derived.Lib.Hide
import Derived.Laws.Cover2
import Derived.Laws.FloatArith
import Derived.Laws.Externs
import Derived.Deep.DeepCutAuto
import Derived.Deep.CutBlock
namespace Go.Proofs.Ytnaakklfbegldaa
open Go.RowKit Flow
set_option linter.unusedVariables false

/-- How two numbers stand to each other, by their bits. -/
abbrev od (x y : Nat) : Option Ordering := FloatKind.f64.format.order x y
def isNan (x : Nat) : Bool := od x x != some .eq
theorem bits_run (b : Nat) (w : World) : (callFunc 39 #[.float .f64 b]).run Try.prog w = .ok (.value (.int .u64 b)) w := by
  rw [run_callFunc_extern Try.func39 (by kernel_rfl) (by kernel_rfl) (by kernel_rfl) (e := Extern.MathFloatBits.float64bits) (by kernel_rfl)]
  rfl
theorem from_run (n : Int) (w : World) : (callFunc 32 #[.int .u64 n]).run Try.prog w = .ok (.value (.float .f64 n.toNat)) w := by
  rw [run_callFunc_extern Try.func32 (by kernel_rfl) (by kernel_rfl) (by kernel_rfl) (e := Extern.MathFloatBits.float64frombits) (by kernel_rfl)]
  rfl
attribute [local go_sem] bits_run from_run
theorem isnan_any (x : Nat) (w : World) : Calls Try.prog 33 #[.float .f64 x] w fun e w' => e = .returned (.bool (isNan x)) ∧ Below w.heap.size w w' := by
  unfold isNan
  go_enter Try.func33, Try.ntmps33
  go_wp2
  go_ret
  exact ⟨rfl, Below.refl _ _⟩
theorem nan_any (w : World) : Calls Try.prog 17 #[] w fun e w' => e = .returned (.float .f64 9221120237041090561) ∧ Below w.heap.size w w' := by
  go_enter Try.func17, Try.ntmps17
  go_wp2
  go_ret
  exact ⟨rfl, Below.refl _ _⟩
theorem inf_pos (w : World) : Calls Try.prog 18 #[.int .i64 1] w fun e w' => e = .returned (.float .f64 9218868437227405312) ∧ Below w.heap.size w w' := by
  go_enter Try.func18, Try.ntmps18
  go_wp2
  go_ret
  exact ⟨rfl, Below.refl _ _⟩
/-- The zero without a sign for both. -/
def unsig (x : Nat) : Nat := if od x 0 == some .eq then 0 else x
def sameF (x y : Nat) : Bool := (od x y == some .eq) || (isNan x && isNan y)
def cmpF (x y : Nat) : Int := if sameF x y then 0 else if isNan x || (od x y == some .lt) then -1 else 1
def bitsF (x : Nat) : Nat := if isNan x then 9221120237041090561 else unsig x
theorem same_any (x y : Nat) (w : World) : Calls Try.prog 34 #[.float .f64 x, .float .f64 y] w fun e w' => e = .returned (.bool (sameF x y)) ∧ Below w.heap.size w w' := by
  have h1 := Lib.hid (isnan_any x)
  have h2 := Lib.hid (isnan_any y)
  unfold sameF
  generalize isNan x = n1 at *
  generalize isNan y = n2 at *
  cases h : (od x y == some .eq) with
  | true =>
    go_enter Try.func34, Try.ntmps34
    go_wp2
    go_ret
    exact ⟨rfl, Below.refl _ _⟩
  | false =>
    cases n1 with
    | false =>
      go_enter Try.func34, Try.ntmps34
      go_wp2_with fail
      refine call_then (h1.out _) ?_
      intro w2 hb
      go_wp2
      go_ret
      exact ⟨rfl, hb⟩
    | true =>
      go_enter Try.func34, Try.ntmps34
      go_wp2_with fail
      refine call_then (h1.out _) ?_
      intro w2 hb
      go_wp2_with fail
      refine call_then (h2.out _) ?_
      intro w3 hb3
      replace hb := below_next hb hb.size hb3
      clear hb3
      go_wp2
      go_ret
      exact ⟨by simp, hb⟩
end Go.Proofs.Ytnaakklfbegldaa
