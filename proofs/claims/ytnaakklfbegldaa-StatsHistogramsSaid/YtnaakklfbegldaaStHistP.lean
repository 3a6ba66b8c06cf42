/-
  StatsHistograms, proved: any numbers between any ends: how many fall into each part; what is no number aside; ends that can't be: for any slice of numbers with a fraction, any ends, any number of parts, with no condition.
-/
import Derived.Test.YtnaakklfbegldaaStHist
import Derived.Laws.Cover2
namespace Go.Proofs.Ytnaakklfbegldaa
open Go.RowKit Go.WideShapes Go.ChangeShapes Flow
set_option linter.unusedVariables false
set_option maxRecDepth 20000 in
theorem hist_big (A : Option Addr) (l : List Nat) (c : Nat) (h : 100 < l.length) (p q : Nat) (k : Int) (w : World) : Calls Try.prog 6 #[.slice A l.length c, .float .f64 p, .float .f64 q, .int .i64 k] w fun e w' => e = .returned (.bool true) ∧ Below w.heap.size w w' := by
  have h' : (100 : Int) < (l.length : Int) := by omega
  go_enter Try.func6, Try.ntmps6
  go_wp2_with fail
  refine call_then (awake_said _) ?_
  intro w1 hb
  go_wp2
  go_ret
  exact ⟨rfl, hb⟩
theorem own_statsHistograms : ownKnob Try.prog.godebug = none := by kernel_rfl
set_option maxRecDepth 100000 in
theorem lifted_statsHistograms (os : Os) (started : os.Started) (H : Type) (enc : TypeId × Value → H) :
    ReturnsInHanded {} Try.checked os 6 .any (Rows.statsHistogramsSpec.pre6 enc Try.prog Try.f6 Rows.statsHistogramsRow.domain false) (Rows.statsHistogramsSpec.post enc Try.prog Try.f6 false true false false) := by
  refine returnsInHanded_of_change (C := Try.checked) own_statsHistograms started (by kernel_rfl) Try.func6
    (ChangeSpec.witness6 (enc := enc) (C := Try.checked) false ⟨#[], #[.slice none 0 0, .float .f64 0, .float .f64 0, .int .i64 0], []⟩ 8 (by kernel_rfl) (by kernel_rfl) (by kernel_rfl) (by kernel_rfl)) ?_
  intro W base args ds gs before hval0 hW hcnd _
  have hval : ∀ (j : Nat) t v, Try.f6.params[j]? = some t → args[j]? = some v → Value.okWide Try.prog W .any base t v := hval0
  have hW' := hW
  obtain ⟨p, q, hA0, hV, rfl, hfz, hnd⟩ := hW
  have hA : DataW.TrodAll enc Try.prog W 0 (fun _ => true) true Try.f6.params.toList args.toList ds p := hA0
  rw [Try.params6] at hA hval
  clear hA0 hval0
  obtain ⟨v0, vs0, d0, ds0, p0, q0, hargs, rfl, rfl, h0, r0⟩ := trodAll_cons hA
  obtain ⟨v1, vs1, d1, ds1, p1, q1, rfl, rfl, rfl, h1, r1⟩ := trodAll_cons r0
  obtain ⟨v2, vs2, d2, ds2, p2, q2, rfl, rfl, rfl, h2, r2⟩ := trodAll_cons r1
  obtain ⟨v3, vs3, d3, ds3, p3, q3, rfl, rfl, rfl, h3, r3⟩ := trodAll_cons r2
  obtain ⟨rfl, rfl, rfl⟩ := trodAll_nil r3
  obtain rfl : args = #[v0, v1, v2, v3] := by cases args; simp_all
  obtain ⟨rfl, rfl⟩ := trodVars_none hV
  obtain ⟨A1, l1, c1, rfl, hl1, hm1, hF, hbits, hsh⟩ := open_argfloats (hval 0 27 v0 rfl rfl) h0
  obtain ⟨b1, rfl, _, _, g1⟩ := open_float (k := .f64) (t := 35) (by kernel_rfl) (hval 1 35 v1 rfl rfl) h1
  obtain ⟨b2, rfl, _, _, g2⟩ := open_float (k := .f64) (t := 35) (by kernel_rfl) (hval 2 35 v2 rfl rfl) h2
  obtain ⟨k, rfl, _, _, wk⟩ := open_int Try.underlying3 (hval 3 3 v3 rfl rfl) h3
  have hwalk : Calls Try.prog 6 #[.slice A1 l1.length c1, .float .f64 b1, .float .f64 b2, .int .i64 k] W fun e w' => e = .returned (.bool true) ∧ Below W.heap.size W w' := by
    by_cases hbig : 100 < l1.length
    · exact hist_big A1 l1 c1 hbig b1 b2 k W
    · exact hist_walk A1 l1 c1 (by omega) b1 b2 k W hF
  refine hwalk.mono fun e W' ⟨he, hb⟩ => ?_
  subst he
  exact ⟨_, rfl, law_true (by decide +kernel) rfl rfl Try.underlying4 hW' rfl hb⟩
theorem over_statsHistograms : Rows.statsHistogramsRow.holds Try.pinned (OpenSpec.ofChange Rows.statsHistogramsSpec) :=
  OpenClaim.holds_of_wide 6 Try.f6 rfl rfl rfl rfl rfl rfl rfl ⟨rfl, rfl, rfl, rfl, rfl⟩ rfl rfl rfl rfl rfl (by kernel_rfl) Try.func6 (by kernel_rfl)
    (of_decide_eq_true (by kernel_rfl)) (by unfold Func.isWrapper; first | (rw [if_pos (by decide +kernel)]; kernel_rfl) | (rw [if_neg (by decide +kernel)]; exact ⟨rfl, rfl⟩))
    (fun os started H enc _ => lifted_statsHistograms os started H enc)
theorem statsHistograms_proved : Rows.StatsHistogramsSaid := over_statsHistograms
#print axioms statsHistograms_proved
end Go.Proofs.Ytnaakklfbegldaa
