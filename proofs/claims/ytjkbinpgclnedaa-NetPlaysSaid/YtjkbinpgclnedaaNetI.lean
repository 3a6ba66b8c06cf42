/-
  Letters on their way: the law's own 'may'.
-/
import Derived.Test.YtjkbinpgclnedaaNetH
namespace Go.Proofs.Ytjkbinpgclnedaa
open Go.RowKit Flow
set_option linter.unusedVariables false

set_option maxHeartbeats 8000000 in
theorem lmay_any (f t : Int) (w : World) : Calls Try.prog 12 #[.int .i64 f, .int .i64 t] w fun e w' => e = .returned (.bool (mayP f t)) ∧ Below w.heap.size w w' := by
  have hF := fun w => lin_any f w
  have hT := fun w => lin_any t w
  have cF := fun w => lcl_any f w
  have cT := fun w => lcl_any t w
  by_cases h1 : ¬(0 ≤ f ∧ f ≤ 66)
  · rw [may_no (by omega)]
    rw [dec_no h1] at hF
    replace hF := Lib.hid hF; replace hT := Lib.hid hT; replace cF := Lib.hid cF; replace cT := Lib.hid cT
    go_enter Try.func12, Try.ntmps12
    have hbz := Below.refl w.heap.size w
    repeat (go_wp2_with fail; (first | with_reducible refine call_then (hF.out _) ?_ | with_reducible refine call_then (hT.out _) ?_ | with_reducible refine call_then (cF.out _) ?_ | with_reducible refine call_then (cT.out _) ?_); intro w9 hb9; replace hbz := below_next hbz hbz.size hb9; clear hb9)
    go_wp2
    go_ret
    exact ⟨rfl, hbz⟩
  replace h1 := Classical.not_not.1 h1
  rw [dec_yes h1] at hF
  by_cases h2 : ¬(0 ≤ t ∧ t ≤ 66)
  · rw [may_no (by omega)]
    rw [dec_no h2] at hT
    replace hF := Lib.hid hF; replace hT := Lib.hid hT; replace cF := Lib.hid cF; replace cT := Lib.hid cT
    go_enter Try.func12, Try.ntmps12
    have hbz := Below.refl w.heap.size w
    repeat (go_wp2_with fail; (first | with_reducible refine call_then (hF.out _) ?_ | with_reducible refine call_then (hT.out _) ?_ | with_reducible refine call_then (cF.out _) ?_ | with_reducible refine call_then (cT.out _) ?_); intro w9 hb9; replace hbz := below_next hbz hbz.size hb9; clear hb9)
    go_wp2
    go_ret
    exact ⟨rfl, hbz⟩
  replace h2 := Classical.not_not.1 h2
  rw [dec_yes h2] at hT
  by_cases h3 : f = t
  · rw [may_no (by omega)]
    have d3 := dec_yes h3
    subst h3
    replace hF := Lib.hid hF; replace hT := Lib.hid hT; replace cF := Lib.hid cF; replace cT := Lib.hid cT
    go_enter Try.func12, Try.ntmps12
    have hbz := Below.refl w.heap.size w
    repeat (go_wp2_with fail; (first | with_reducible refine call_then (hF.out _) ?_ | with_reducible refine call_then (hT.out _) ?_ | with_reducible refine call_then (cF.out _) ?_ | with_reducible refine call_then (cT.out _) ?_); intro w9 hb9; replace hbz := below_next hbz hbz.size hb9; clear hb9)
    go_wp2
    go_ret
    exact ⟨rfl, hbz⟩
  have d3 : (f != t) = true := by simp [h3]
  by_cases h4 : 3 ≤ f
  · rw [dec_yes h4] at cF
    by_cases h5 : 3 ≤ t
    · rw [dec_yes h5] at cT
      rw [may_no (by omega)]
      replace hF := Lib.hid hF; replace hT := Lib.hid hT; replace cF := Lib.hid cF; replace cT := Lib.hid cT
      go_enter Try.func12, Try.ntmps12
      have hbz := Below.refl w.heap.size w
      repeat (go_wp2_with fail; (first | with_reducible refine call_then (hF.out _) ?_ | with_reducible refine call_then (hT.out _) ?_ | with_reducible refine call_then (cF.out _) ?_ | with_reducible refine call_then (cT.out _) ?_); intro w9 hb9; replace hbz := below_next hbz hbz.size hb9; clear hb9)
      go_wp2
      go_ret
      exact ⟨rfl, hbz⟩
    · rw [dec_no h5] at cT
      by_cases h6 : t = 2
      · have d6 : (t == 2) = true := by simp [h6]
        rw [may_no (by omega)]
        replace hF := Lib.hid hF; replace hT := Lib.hid hT; replace cF := Lib.hid cF; replace cT := Lib.hid cT
        go_enter Try.func12, Try.ntmps12
        have hbz := Below.refl w.heap.size w
        repeat (go_wp2_with fail; (first | with_reducible refine call_then (hF.out _) ?_ | with_reducible refine call_then (hT.out _) ?_ | with_reducible refine call_then (cF.out _) ?_ | with_reducible refine call_then (cT.out _) ?_); intro w9 hb9; replace hbz := below_next hbz hbz.size hb9; clear hb9)
        go_wp2
        go_ret
        exact ⟨rfl, hbz⟩
      · have d6 : (t == 2) = false := by simp [h6]
        rw [may_yes (by omega)]
        replace hF := Lib.hid hF; replace hT := Lib.hid hT; replace cF := Lib.hid cF; replace cT := Lib.hid cT
        go_enter Try.func12, Try.ntmps12
        have hbz := Below.refl w.heap.size w
        repeat (go_wp2_with fail; (first | with_reducible refine call_then (hF.out _) ?_ | with_reducible refine call_then (hT.out _) ?_ | with_reducible refine call_then (cF.out _) ?_ | with_reducible refine call_then (cT.out _) ?_); intro w9 hb9; replace hbz := below_next hbz hbz.size hb9; clear hb9)
        go_wp2
        go_ret
        exact ⟨rfl, hbz⟩
  · rw [dec_no h4] at cF
    by_cases h5 : 3 ≤ t
    · rw [dec_yes h5] at cT
      by_cases h6 : f = 2
      · have d6 : (f == 2) = true := by simp [h6]
        rw [may_no (by omega)]
        replace hF := Lib.hid hF; replace hT := Lib.hid hT; replace cF := Lib.hid cF; replace cT := Lib.hid cT
        go_enter Try.func12, Try.ntmps12
        have hbz := Below.refl w.heap.size w
        repeat (go_wp2_with fail; (first | with_reducible refine call_then (hF.out _) ?_ | with_reducible refine call_then (hT.out _) ?_ | with_reducible refine call_then (cF.out _) ?_ | with_reducible refine call_then (cT.out _) ?_); intro w9 hb9; replace hbz := below_next hbz hbz.size hb9; clear hb9)
        go_wp2
        go_ret
        exact ⟨rfl, hbz⟩
      · have d6 : (f == 2) = false := by simp [h6]
        rw [may_yes (by omega)]
        replace hF := Lib.hid hF; replace hT := Lib.hid hT; replace cF := Lib.hid cF; replace cT := Lib.hid cT
        go_enter Try.func12, Try.ntmps12
        have hbz := Below.refl w.heap.size w
        repeat (go_wp2_with fail; (first | with_reducible refine call_then (hF.out _) ?_ | with_reducible refine call_then (hT.out _) ?_ | with_reducible refine call_then (cF.out _) ?_ | with_reducible refine call_then (cT.out _) ?_); intro w9 hb9; replace hbz := below_next hbz hbz.size hb9; clear hb9)
        go_wp2
        go_ret
        exact ⟨rfl, hbz⟩
    · rw [dec_no h5] at cT
      rw [may_yes (by omega)]
      replace hF := Lib.hid hF; replace hT := Lib.hid hT; replace cF := Lib.hid cF; replace cT := Lib.hid cT
      go_enter Try.func12, Try.ntmps12
      have hbz := Below.refl w.heap.size w
      repeat (go_wp2_with fail; (first | with_reducible refine call_then (hF.out _) ?_ | with_reducible refine call_then (hT.out _) ?_ | with_reducible refine call_then (cF.out _) ?_ | with_reducible refine call_then (cT.out _) ?_); intro w9 hb9; replace hbz := below_next hbz hbz.size hb9; clear hb9)
      go_wp2
      go_ret
      exact ⟨rfl, hbz⟩
end Go.Proofs.Ytjkbinpgclnedaa
