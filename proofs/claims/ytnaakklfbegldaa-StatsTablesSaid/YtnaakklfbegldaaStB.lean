/-
  Numbers with a fraction: within ends; just the same.
-/
import Derived.Test.YtnaakklfbegldaaStA
namespace Go.Proofs.Ytnaakklfbegldaa
open Go.RowKit Flow
set_option linter.unusedVariables false
attribute [local go_sem] bits_run from_run

def clampF (x lo hi : Nat) : Nat × Int :=
  if isNan lo || isNan hi then (0, 28)
  else if od lo hi == some .gt then (0, 6)
  else if isNan x || od x lo == some .lt then (lo, 0)
  else if od x hi == some .gt then (hi, 0)
  else (x, 0)
theorem clamp_any (x lo hi : Nat) (w : World) : Calls Try.prog 19 #[.float .f64 x, .float .f64 lo, .float .f64 hi] w fun e w' => e = .returned (.tuple #[.float .f64 (clampF x lo hi).1, .int .i64 (clampF x lo hi).2]) ∧ Below w.heap.size w w' := by
  have h0 := Lib.hid (isnan_any x)
  have h1 := Lib.hid (isnan_any lo)
  have h2 := Lib.hid (isnan_any hi)
  unfold clampF
  generalize isNan x = N0 at *
  generalize isNan lo = N1 at *
  generalize isNan hi = N2 at *
  have hb := Below.refl w.heap.size w
  cases N1 with
  | true =>
    go_enter Try.func19, Try.ntmps19
    go_wp2_with fail
    refine call_then (h1.out _) ?_
    intro w2 hb2
    replace hb := below_next hb hb.size hb2
    clear hb2
    go_wp2
    go_ret2
    exact ⟨rfl, hb⟩
  | false =>
    cases N2 with
    | true =>
      go_enter Try.func19, Try.ntmps19
      go_wp2_with fail
      refine call_then (h1.out _) ?_
      intro w2 hb2
      replace hb := below_next hb hb.size hb2
      clear hb2
      go_wp2_with fail
      refine call_then (h2.out _) ?_
      intro w2 hb2
      replace hb := below_next hb hb.size hb2
      clear hb2
      go_wp2
      go_ret2
      exact ⟨rfl, hb⟩
    | false =>
      cases hg : (od lo hi == some .gt) with
      | true =>
        go_enter Try.func19, Try.ntmps19
        go_wp2_with fail
        refine call_then (h1.out _) ?_
        intro w2 hb2
        replace hb := below_next hb hb.size hb2
        clear hb2
        go_wp2_with fail
        refine call_then (h2.out _) ?_
        intro w2 hb2
        replace hb := below_next hb hb.size hb2
        clear hb2
        go_wp2
        go_ret2
        exact ⟨rfl, hb⟩
      | false =>
        cases N0 with
        | true =>
          go_enter Try.func19, Try.ntmps19
          go_wp2_with fail
          refine call_then (h1.out _) ?_
          intro w2 hb2
          replace hb := below_next hb hb.size hb2
          clear hb2
          go_wp2_with fail
          refine call_then (h2.out _) ?_
          intro w2 hb2
          replace hb := below_next hb hb.size hb2
          clear hb2
          go_wp2_with fail
          refine call_then (h0.out _) ?_
          intro w2 hb2
          replace hb := below_next hb hb.size hb2
          clear hb2
          go_wp2
          go_ret2
          exact ⟨rfl, hb⟩
        | false =>
          cases hl : (od x lo == some .lt) with
          | true =>
            go_enter Try.func19, Try.ntmps19
            go_wp2_with fail
            refine call_then (h1.out _) ?_
            intro w2 hb2
            replace hb := below_next hb hb.size hb2
            clear hb2
            go_wp2_with fail
            refine call_then (h2.out _) ?_
            intro w2 hb2
            replace hb := below_next hb hb.size hb2
            clear hb2
            go_wp2_with fail
            refine call_then (h0.out _) ?_
            intro w2 hb2
            replace hb := below_next hb hb.size hb2
            clear hb2
            go_wp2
            go_ret2
            exact ⟨rfl, hb⟩
          | false =>
            cases hg2 : (od x hi == some .gt) with
            | true =>
              go_enter Try.func19, Try.ntmps19
              go_wp2_with fail
              refine call_then (h1.out _) ?_
              intro w2 hb2
              replace hb := below_next hb hb.size hb2
              clear hb2
              go_wp2_with fail
              refine call_then (h2.out _) ?_
              intro w2 hb2
              replace hb := below_next hb hb.size hb2
              clear hb2
              go_wp2_with fail
              refine call_then (h0.out _) ?_
              intro w2 hb2
              replace hb := below_next hb hb.size hb2
              clear hb2
              go_wp2
              go_ret2
              exact ⟨rfl, hb⟩
            | false =>
              go_enter Try.func19, Try.ntmps19
              go_wp2_with fail
              refine call_then (h1.out _) ?_
              intro w2 hb2
              replace hb := below_next hb hb.size hb2
              clear hb2
              go_wp2_with fail
              refine call_then (h2.out _) ?_
              intro w2 hb2
              replace hb := below_next hb hb.size hb2
              clear hb2
              go_wp2_with fail
              refine call_then (h0.out _) ?_
              intro w2 hb2
              replace hb := below_next hb hb.size hb2
              clear hb2
              go_wp2
              go_ret2
              exact ⟨rfl, hb⟩
def sgn (x : Nat) : Bool := decide (wrap64 (x : Int) < 0)
theorem signbit_any (x : Nat) (w : World) : Calls Try.prog 24 #[.float .f64 x] w fun e w' => e = .returned (.bool (sgn x)) ∧ Below w.heap.size w w' := by
  go_enter Try.func24, Try.ntmps24
  go_wp2
  go_ret
  exact ⟨rfl, Below.refl _ _⟩
theorem just_self (x : Nat) (w : World) : Calls Try.prog 12 #[.float .f64 x, .float .f64 x] w fun e w' => e = .returned (.bool true) ∧ Below w.heap.size w w' := by
  have h0 := none_any x
  have hs := signbit_any x
  generalize sgn x = s at *
  replace hs := Lib.hid hs
  have hb := Below.refl w.heap.size w
  cases hn : isNan x with
  | true =>
    rw [hn] at h0
    replace h0 := Lib.hid h0
    clear hn
    go_enter Try.func12, Try.ntmps12
    go_wp2_with fail
    refine call_then (h0.out _) ?_
    intro w2 hb2
    replace hb := below_next hb hb.size hb2
    clear hb2
    go_wp2_with fail
    refine call_then (h0.out _) ?_
    intro w2 hb2
    replace hb := below_next hb hb.size hb2
    clear hb2
    go_wp2
    go_ret
    exact ⟨rfl, hb⟩
  | false =>
    have he : (FloatKind.f64.format.order x x == some .eq) = true := by
      have := od_self hn
      have h2 : FloatKind.f64.format.order x x = some .eq := this
      rw [h2]; rfl
    rw [hn] at h0
    replace h0 := Lib.hid h0
    clear hn
    go_enter Try.func12, Try.ntmps12
    go_wp2_with fail
    refine call_then (h0.out _) ?_
    intro w2 hb2
    replace hb := below_next hb hb.size hb2
    clear hb2
    go_wp2_with fail
    refine call_then (hs.out _) ?_
    intro w2 hb2
    replace hb := below_next hb hb.size hb2
    clear hb2
    go_wp2_with fail
    refine call_then (hs.out _) ?_
    intro w2 hb2
    replace hb := below_next hb hb.size hb2
    clear hb2
    go_wp2
    go_ret
    exact ⟨by simp, hb⟩
end Go.Proofs.Ytnaakklfbegldaa
