/-
  StatsSummaries, proved: any numbers: how many of them are numbers; the least, the greatest, the middle one: for any slice of numbers with a fraction, with no condition.
-/
import Derived.Test.YtnaakklfbegldaaStQ
namespace Go.Proofs.Ytnaakklfbegldaa
open Go.RowKit Go.WideShapes Go.ChangeShapes Flow
set_option linter.unusedVariables false
theorem summaries_big (A : Option Addr) (l : List Nat) (c : Nat) (h : 200 < l.length) (w : World) : Calls Try.prog 4 #[.slice A l.length c] w fun e w' => e = .returned (.bool true) ∧ Below w.heap.size w w' := by
  have h' : (200 : Int) < (l.length : Int) := by omega
  go_enter Try.func4, Try.ntmps4
  go_wp2_with fail
  refine call_then (awake_said _) ?_
  intro w1 hb
  go_wp2
  go_ret
  exact ⟨rfl, hb⟩
theorem perm_nil {l : List Nat} (h : l = []) : ([] : List Num).Perm (nums l) := by subst h; exact .refl _
theorem asc_nil : Ascends [] := fun i j hij hj => absurd hj (by simp)
theorem own_statsSummaries : ownKnob Try.prog.godebug = none := by kernel_rfl
set_option maxRecDepth 100000 in
theorem lifted_statsSummaries (os : Os) (started : os.Started) (H : Type) (enc : TypeId × Value → H) :
    ReturnsInHanded {} Try.checked os 4 .any (Rows.statsSummariesSpec.pre6 enc Try.prog Try.f4 Rows.statsSummariesRow.domain false) (Rows.statsSummariesSpec.post enc Try.prog Try.f4 false true false false) := by
  refine returnsInHanded_of_change (C := Try.checked) own_statsSummaries started (by kernel_rfl) Try.func4
    (ChangeSpec.witness6 (enc := enc) (C := Try.checked) false ⟨#[], #[.slice none 0 0], []⟩ 8 (by kernel_rfl) (by kernel_rfl) (by kernel_rfl) (by kernel_rfl)) ?_
  intro W base args ds gs before hval0 hW hcnd _
  have hval : ∀ (j : Nat) t v, Try.f4.params[j]? = some t → args[j]? = some v → Value.okWide Try.prog W .any base t v := hval0
  have hW' := hW
  obtain ⟨p, q, hA0, hV, rfl, hfz, hnd⟩ := hW
  have hA : DataW.TrodAll enc Try.prog W 0 (fun _ => true) true Try.f4.params.toList args.toList ds p := hA0
  rw [Try.params4] at hA hval
  clear hA0 hval0
  obtain ⟨v0, vs0, d0, ds0, p0, q0, hargs, rfl, rfl, h0, r0⟩ := trodAll_cons hA
  obtain ⟨rfl, rfl, rfl⟩ := trodAll_nil r0
  obtain rfl : args = #[v0] := by cases args; simp_all
  obtain ⟨rfl, rfl⟩ := trodVars_none hV
  obtain ⟨A1, l1, c1, rfl, hl1, hm1, hF, hbits, hsh⟩ := open_argfloats (hval 0 27 v0 rfl rfl) h0
  have hwalk : Calls Try.prog 4 #[.slice A1 l1.length c1] W fun e w' => e = .returned (.bool true) ∧ Below W.heap.size W w' := by
    by_cases hbig : 200 < l1.length
    · exact summaries_big A1 l1 c1 hbig W
    · refine summaries_walk A1 l1 c1 (by omega) hbits W hF fun w1 hb1 => ?_
      rcases hsh with ⟨rfl, rfl⟩ | ⟨b, o, rfl⟩ | ⟨a, rfl, rfl⟩
      · obtain rfl : l1 = [] := List.eq_nil_of_length_eq_zero (by omega)
        exact (summarize_nil w1).mono fun e w' ⟨he, hb⟩ => ⟨[], he, perm_nil rfl, asc_nil, hb⟩
      · exact summarize_any b o c1 l1 (by omega) hl1 w1 (hF.up hb1)
      · exact (summarize_empty a c1 w1).mono fun e w' ⟨he, hb⟩ => ⟨[], he, perm_nil rfl, asc_nil, hb⟩
  refine hwalk.mono fun e W' ⟨he, hb⟩ => ?_
  subst he
  exact ⟨_, rfl, law_true (by decide +kernel) rfl rfl Try.underlying4 hW' rfl hb⟩
theorem over_statsSummaries : Rows.statsSummariesRow.holds Try.pinned (OpenSpec.ofChange Rows.statsSummariesSpec) :=
  OpenClaim.holds_of_wide 4 Try.f4 rfl rfl rfl rfl rfl rfl rfl ⟨rfl, rfl, rfl, rfl, rfl⟩ rfl rfl rfl rfl rfl (by kernel_rfl) Try.func4 (by kernel_rfl)
    (of_decide_eq_true (by kernel_rfl)) (by unfold Func.isWrapper; first | (rw [if_pos (by decide +kernel)]; kernel_rfl) | (rw [if_neg (by decide +kernel)]; exact ⟨rfl, rfl⟩))
    (fun os started H enc _ => lifted_statsSummaries os started H enc)
theorem statsSummaries_proved : Rows.StatsSummariesSaid := over_statsSummaries
#print axioms statsSummaries_proved
end Go.Proofs.Ytnaakklfbegldaa
