/-
  Just the same: what is the same, or both no number.
-/
import Derived.Test.YtnaakklfbegldaaTcJ
import Derived.Test.YtnaakklfbegldaaStB
namespace Go.Proofs.Ytnaakklfbegldaa
open Go.RowKit Flow
set_option linter.unusedVariables false
set_option linter.unusedSimpArgs false

theorem nanP_is {x : Nat} (h : nanP x) : isNan x = true := by
  obtain ⟨s, t, e⟩ := read_nan x h
  have : od x x = none := by
    show (Ieee.double.read x).order (Ieee.double.read x) = none
    rw [e, order_nan1 _ _ rfl]
  unfold isNan
  rw [this]
  rfl
theorem just_sm (x y : Nat) (h : Sm x y) (w : World) : Calls Try.prog 12 #[.float .f64 x, .float .f64 y] w fun e w' => e = .returned (.bool true) ∧ Below w.heap.size w w' := by
  rcases h with rfl | ⟨h1, h2⟩
  · exact just_self x w
  · have h0 := none_any x
    have h9 := none_any y
    rw [nanP_is h1] at h0
    rw [nanP_is h2] at h9
    replace h0 := Lib.hid h0
    replace h9 := Lib.hid h9
    clear h1 h2
    have hb := Below.refl w.heap.size w
    go_enter Try.func12, Try.ntmps12
    go_wp2_with fail
    refine call_then (h0.out _) ?_
    intro w2 hb2
    replace hb := below_next hb hb.size hb2
    clear hb2
    go_wp2_with fail
    refine call_then (h9.out _) ?_
    intro w2 hb2
    replace hb := below_next hb hb.size hb2
    clear hb2
    go_wp2
    go_ret
    exact ⟨rfl, hb⟩
end Go.Proofs.Ytnaakklfbegldaa
