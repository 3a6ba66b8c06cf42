/-
  The law's own 'less'; the mathematics of an insertion.
-/
import Derived.Test.YtnaakklfbegldaaStI
namespace Go.Proofs.Ytnaakklfbegldaa
open Go.RowKit Flow
set_option linter.unusedVariables false
set_option linter.unusedSimpArgs false
attribute [local go_sem] bits_run from_run

def lessF (x y : Nat) : Bool := (od x y == some .lt) || ((od x y == some .eq) && (sgn x && !sgn y))
theorem less_key {x y : Nat} (hx : isNan x = false) (hy : isNan y = false) : lessF x y = decide (key2 x < key2 y) := by
  unfold lessF key2
  rw [od_key hx hy]
  generalize key x = a at *
  generalize key y = b at *
  rcases Int.lt_trichotomy a b with h | h | h
  · rw [Int.compare_eq_lt.2 h]
    cases sgn x <;> cases sgn y <;> simp <;> omega
  · subst h
    rw [Int.compare_eq_eq.2 rfl]
    cases sgn x <;> cases sgn y <;> simp <;> omega
  · rw [Int.compare_eq_gt.2 h]
    cases sgn x <;> cases sgn y <;> simp <;> omega
theorem less_same (x y : Nat) (w : World) : Calls Try.prog 16 #[.float .f64 x, .float .f64 y] w fun e w' => e = .returned (.bool (lessF x y)) ∧ w' = w := by
  have h1 := signbit_same x
  have h2 := signbit_same y
  unfold lessF
  generalize sgn x = s1 at *
  generalize sgn y = s2 at *
  replace h1 := Lib.hid h1
  replace h2 := Lib.hid h2
  cases hl : (FloatKind.f64.format.order x y == some .lt) with
  | true =>
    simp only [od, hl, Bool.true_or]
    go_enter Try.func16, Try.ntmps16
    go_wp2
    go_ret
    exact ⟨rfl, rfl⟩
  | false =>
    cases he : (FloatKind.f64.format.order x y == some .eq) with
    | false =>
      simp only [od, hl, he, Bool.false_or, Bool.false_and]
      go_enter Try.func16, Try.ntmps16
      go_wp2
      go_ret
      exact ⟨rfl, rfl⟩
    | true =>
      simp only [od, hl, he, Bool.false_or, Bool.true_and]
      cases s1 with
      | false =>
        go_enter Try.func16, Try.ntmps16
        go_wp2_with fail
        refine (h1.out _).mono ?_
        rintro e w' ⟨rfl, rfl⟩
        go_wp2
        go_ret
        exact ⟨rfl, rfl⟩
      | true =>
        go_enter Try.func16, Try.ntmps16
        go_wp2_with fail
        refine (h1.out _).mono ?_
        rintro e w' ⟨rfl, rfl⟩
        go_wp2_with fail
        refine (h2.out _).mono ?_
        rintro e w' ⟨rfl, rfl⟩
        go_wp2
        go_ret
        exact ⟨by simp, rfl⟩
end Go.Proofs.Ytnaakklfbegldaa
