/-
  How the program orders numbers: the callees of its sort.
-/
import Derived.Test.YtnaakklfbegldaaStB
namespace Go.Proofs.Ytnaakklfbegldaa
open Go.RowKit Flow
set_option linter.unusedVariables false
set_option linter.unusedSimpArgs false
attribute [local go_sem] bits_run from_run

theorem signbit_same (x : Nat) (w : World) : Calls Try.prog 24 #[.float .f64 x] w fun e w' => e = .returned (.bool (sgn x)) ∧ w' = w := by
  go_enter Try.func24, Try.ntmps24
  go_wp2
  go_ret
  exact ⟨rfl, rfl⟩
theorem sign_same (x : Nat) (w : World) : Calls Try.prog 55 #[.float .f64 x] w fun e w' => e = .returned (.int .i64 (if sgn x then 0 else 1)) ∧ w' = w := by
  have hs := signbit_same x
  generalize sgn x = s at *
  replace hs := Lib.hid hs
  cases s with
  | true =>
    go_enter Try.func55, Try.ntmps55
    go_wp2_with fail
    refine ((hs).out _).mono ?_
    rintro e w' ⟨rfl, rfl⟩
    go_wp2
    go_ret
    exact ⟨rfl, rfl⟩
  | false =>
    go_enter Try.func55, Try.ntmps55
    go_wp2_with fail
    refine ((hs).out _).mono ?_
    rintro e w' ⟨rfl, rfl⟩
    go_wp2
    go_ret
    exact ⟨rfl, rfl⟩
theorem cnan_same (x : Nat) (w : World) : Calls Try.prog 68 #[.float .f64 x] w fun e w' => e = .returned (.bool (isNan x)) ∧ w' = w := by
  unfold isNan
  go_enter Try.func68, Try.ntmps68
  go_wp2
  go_ret
  exact ⟨rfl, rfl⟩
/-- Of two numbers, neither of which is none. -/
def ordF (x y : Nat) : Int := if od x y == some .eq then (if sgn x then 0 else 1) - (if sgn y then 0 else 1) else if od x y == some .lt then -1 else 1
theorem order_same (x y : Nat) (hx : isNan x = false) (hy : isNan y = false) (w : World) : Calls Try.prog 47 #[.float .f64 x, .float .f64 y] w fun e w' => e = .returned (.int .i64 (ordF x y)) ∧ w' = w := by
  have h1 := sign_same x
  have h2 := sign_same y
  have h3 := cnan_same x
  have h4 := cnan_same y
  rw [hx] at h3
  rw [hy] at h4
  obtain ⟨o, ho⟩ := od_some hx hy
  unfold ordF
  generalize sgn x = s1 at *
  generalize sgn y = s2 at *
  clear hx hy
  replace h1 := Lib.hid h1
  replace h2 := Lib.hid h2
  replace h3 := Lib.hid h3
  replace h4 := Lib.hid h4
  have ho' : FloatKind.f64.format.order x y = some o := ho
  cases o with
  | eq =>
    rw [ho]
    cases s1 <;> cases s2
    all_goals
      go_enter Try.func47, Try.ntmps47
      go_wp2_with fail
      refine (h1.out _).mono ?_
      rintro e w' ⟨rfl, rfl⟩
      go_wp2_with fail
      refine (h2.out _).mono ?_
      rintro e w' ⟨rfl, rfl⟩
      go_wp2
      go_ret
      exact ⟨rfl, rfl⟩
  | lt =>
    rw [ho]
    have hc : ∀ w, Calls Try.prog 54 #[.float .f64 x, .float .f64 y] w fun e w' => e = .returned (.int .i64 (-1)) ∧ w' = w := fun w => by
      go_enter Try.func54, Try.ntmps54
      go_wp2_with fail
      refine ((h3).out _).mono ?_
      rintro e w' ⟨rfl, rfl⟩
      go_wp2_with fail
      refine ((h4).out _).mono ?_
      rintro e w' ⟨rfl, rfl⟩
      go_wp2
      go_ret
      exact ⟨rfl, rfl⟩
    replace hc := Lib.hid hc
    go_enter Try.func47, Try.ntmps47
    go_wp2_with fail
    refine ((hc).out _).mono ?_
    rintro e w' ⟨rfl, rfl⟩
    go_wp2
    go_ret
    exact ⟨rfl, rfl⟩
  | gt =>
    rw [ho]
    have hc : ∀ w, Calls Try.prog 54 #[.float .f64 x, .float .f64 y] w fun e w' => e = .returned (.int .i64 1) ∧ w' = w := fun w => by
      go_enter Try.func54, Try.ntmps54
      go_wp2_with fail
      refine ((h3).out _).mono ?_
      rintro e w' ⟨rfl, rfl⟩
      go_wp2_with fail
      refine ((h4).out _).mono ?_
      rintro e w' ⟨rfl, rfl⟩
      go_wp2
      go_ret
      exact ⟨rfl, rfl⟩
    replace hc := Lib.hid hc
    go_enter Try.func47, Try.ntmps47
    go_wp2_with fail
    refine ((hc).out _).mono ?_
    rintro e w' ⟨rfl, rfl⟩
    go_wp2
    go_ret
    exact ⟨rfl, rfl⟩
end Go.Proofs.Ytnaakklfbegldaa
