/-
  StatsClamps, proved: any numbers, any ends: within these; whether two are near: for any four numbers (no number, infinities and noughts with a sign among them), with no condition.
-/
import Derived.Test.YtnaakklfbegldaaStCc
import Derived.Test.YtnaakklfbegldaaStS
import Derived.Test.YtnaakklfbegldaaFrame
import Derived.Test.YtnaakklfbegldaaPost
import Derived.Laws.Cover2
namespace Go.Proofs.Ytnaakklfbegldaa
open Go.RowKit Go.WideShapes Go.ChangeShapes Flow
set_option linter.unusedVariables false
theorem own_statsClamps : ownKnob Try.prog.godebug = none := by kernel_rfl
set_option maxRecDepth 100000 in
theorem lifted_statsClamps (os : Os) (started : os.Started) (H : Type) (enc : TypeId × Value → H) :
    ReturnsInHanded {} Try.checked os 5 .any (Rows.statsClampsSpec.pre6 enc Try.prog Try.f5 Rows.statsClampsRow.domain false) (Rows.statsClampsSpec.post enc Try.prog Try.f5 false true false false) := by
  refine returnsInHanded_of_change (C := Try.checked) own_statsClamps started (by kernel_rfl) Try.func5
    (ChangeSpec.witness6 (enc := enc) (C := Try.checked) false ⟨#[], #[.float .f64 0, .float .f64 0, .float .f64 0, .float .f64 0], []⟩ 8 (by kernel_rfl) (by kernel_rfl) (by kernel_rfl) (by kernel_rfl)) ?_
  intro W base args ds gs before hval0 hW hcnd _
  have hval : ∀ (j : Nat) t v, Try.f5.params[j]? = some t → args[j]? = some v → Value.okWide Try.prog W .any base t v := hval0
  have hW' := hW
  obtain ⟨p, q, hA0, hV, rfl, hfz, hnd⟩ := hW
  have hA : DataW.TrodAll enc Try.prog W 0 (fun _ => true) true Try.f5.params.toList args.toList ds p := hA0
  rw [Try.params5] at hA hval
  clear hA0 hval0
  obtain ⟨v0, vs0, d0, ds0, p0, q0, hargs, rfl, rfl, h0, r0⟩ := trodAll_cons hA
  obtain ⟨v1, vs1, d1, ds1, p1, q1, rfl, rfl, rfl, h1, r1⟩ := trodAll_cons r0
  obtain ⟨v2, vs2, d2, ds2, p2, q2, rfl, rfl, rfl, h2, r2⟩ := trodAll_cons r1
  obtain ⟨v3, vs3, d3, ds3, p3, q3, rfl, rfl, rfl, h3, r3⟩ := trodAll_cons r2
  obtain ⟨rfl, rfl, rfl⟩ := trodAll_nil r3
  obtain rfl : args = #[v0, v1, v2, v3] := by cases args; simp_all
  obtain ⟨rfl, rfl⟩ := trodVars_none hV
  obtain ⟨b0, rfl, _, _, g0⟩ := open_float (k := .f64) (t := 35) (by kernel_rfl) (hval 0 35 v0 rfl rfl) h0
  obtain ⟨b1, rfl, _, _, g1⟩ := open_float (k := .f64) (t := 35) (by kernel_rfl) (hval 1 35 v1 rfl rfl) h1
  obtain ⟨b2, rfl, _, _, g2⟩ := open_float (k := .f64) (t := 35) (by kernel_rfl) (hval 2 35 v2 rfl rfl) h2
  obtain ⟨b3, rfl, _, _, g3⟩ := open_float (k := .f64) (t := 35) (by kernel_rfl) (hval 3 35 v3 rfl rfl) h3
  refine (clamps_walk awake_said b0 b1 b2 b3 W).mono fun e W' ⟨he, hb⟩ => ?_
  subst he
  exact ⟨_, rfl, law_true (by decide +kernel) rfl rfl Try.underlying4 hW' rfl hb⟩
theorem over_statsClamps : Rows.statsClampsRow.holds Try.pinned (OpenSpec.ofChange Rows.statsClampsSpec) :=
  OpenClaim.holds_of_wide 5 Try.f5 rfl rfl rfl rfl rfl rfl rfl ⟨rfl, rfl, rfl, rfl, rfl⟩ rfl rfl rfl rfl rfl (by kernel_rfl) Try.func5 (by kernel_rfl)
    (of_decide_eq_true (by kernel_rfl)) (by unfold Func.isWrapper; first | (rw [if_pos (by decide +kernel)]; kernel_rfl) | (rw [if_neg (by decide +kernel)]; exact ⟨rfl, rfl⟩))
    (fun os started H enc _ => lifted_statsClamps os started H enc)
theorem statsClamps_proved : Rows.StatsClampsSaid := over_statsClamps
#print axioms statsClamps_proved
end Go.Proofs.Ytnaakklfbegldaa
