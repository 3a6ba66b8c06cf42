/-
  ClientPlays, proved: for any id, any bytes of a report, any calls, with no condition.
-/
import Derived.Test.YtehjfilnfpkjkaaUpW
import Derived.Test.YtehjfilnfpkjkaaFrame
import Derived.Test.YtehjfilnfpkjkaaPost
import Derived.Test.YtehjfilnfpkjkaaArr
import Derived.WalkKit
import Derived.ProofKit
import Derived.OpenShut
namespace Go.Proofs.Ytehjfilnfpkjkaa
open Go.RowKit Go.WideShapes Go.ChangeShapes Flow
set_option linter.unusedVariables false
theorem own_clientPlays : ownKnob Try.prog.godebug = none := by kernel_rfl
set_option maxRecDepth 100000 in
theorem lifted_clientPlays (os : Os) (started : os.Started) (H : Type) (enc : TypeId × Value → H) :
    ReturnsInHanded {} Try.checked os 4 .any (Rows.clientPlaysSpec.pre6 enc Try.prog Try.f4 Rows.clientPlaysRow.domain false) (Rows.clientPlaysSpec.post enc Try.prog Try.f4 false true false false) := by
  refine returnsInHanded_of_change (C := Try.checked) own_clientPlays started (by kernel_rfl) Try.func4
    (ChangeSpec.witness6 (enc := enc) (C := Try.checked) false ⟨#[], #[.agg #[.int .u8 0, .int .u8 0, .int .u8 0, .int .u8 0, .int .u8 0, .int .u8 0, .int .u8 0, .int .u8 0, .int .u8 0, .int .u8 0, .int .u8 0, .int .u8 0, .int .u8 0, .int .u8 0, .int .u8 0, .int .u8 0], .slice none 0 0, .slice none 0 0, .slice none 0 0, .slice none 0 0], []⟩ 8 (by kernel_rfl) (by kernel_rfl) (by kernel_rfl) (by kernel_rfl)) ?_
  intro W base args ds gs before hval0 hW hcnd _
  have hval : ∀ (j : Nat) t v, Try.f4.params[j]? = some t → args[j]? = some v → Value.okWide Try.prog W .any base t v := hval0
  have hW' := hW
  obtain ⟨p, q, hA0, hV, rfl, hfz, hnd⟩ := hW
  have hA : DataW.TrodAll enc Try.prog W 0 (fun _ => true) true Try.f4.params.toList args.toList ds p := hA0
  rw [Try.params4] at hA hval
  clear hA0 hval0
  obtain ⟨v0, vs0, d0, ds0, p0, q0, hargs, rfl, rfl, h0, r0⟩ := trodAll_cons hA
  obtain ⟨v1, vs1, d1, ds1, p1, q1, rfl, rfl, rfl, h1, r1⟩ := trodAll_cons r0
  obtain ⟨v2, vs2, d2, ds2, p2, q2, rfl, rfl, rfl, h2, r2⟩ := trodAll_cons r1
  obtain ⟨v3, vs3, d3, ds3, p3, q3, rfl, rfl, rfl, h3, r3⟩ := trodAll_cons r2
  obtain ⟨v4, vs4, d4, ds4, p4, q4, rfl, rfl, rfl, h4, r4⟩ := trodAll_cons r3
  obtain ⟨rfl, rfl, rfl⟩ := trodAll_nil r4
  obtain rfl : args = #[v0, v1, v2, v3, v4] := by cases args; simp_all
  obtain ⟨rfl, rfl⟩ := trodVars_none hV
  obtain ⟨zs, hzl, rfl, _, _, hwf⟩ := open_int_array Try.underlying34 Try.underlying5 (by kernel_rfl) (by kernel_rfl) (hval 0 34 v0 rfl rfl) h0
  obtain ⟨A1, x1, c1, rfl, l1, m1, e1, o1, n1⟩ := open_argbytes (hval 1 28 v1 rfl rfl) h1
  obtain ⟨A2, x2, c2, rfl, l2, m2, e2, o2, n2⟩ := open_argbytes (hval 2 28 v2 rfl rfl) h2
  obtain ⟨A3, x3, c3, rfl, l3, m3, e3, o3, n3⟩ := open_argbytes (hval 3 28 v3 rfl rfl) h3
  obtain ⟨A4, k4, c4, al, rfl, l4, e4, o4⟩ := open_acts (hval 4 47 v4 rfl rfl) h4
  obtain ⟨y0, y1, y2, y3, y4, y5, y6, y7, y8, y9, y10, y11, y12, y13, y14, y15, rfl⟩ := id_lit hzl
  refine (plays_walk y0 y1 y2 y3 y4 y5 y6 y7 y8 y9 y10 y11 y12 y13 y14 y15 x1 x2 x3 A1 A2 A3 c1 c2 c3 A4 k4 c4 l4 al W e1 e2 e3 n1 n2 n3 (Nat.le_trans l1 m1) (Nat.le_trans l2 m2) (Nat.le_trans l3 m3) e4 o4).mono fun e W' ⟨he, hb⟩ => ?_
  subst he
  exact ⟨_, rfl, law_true (by decide +kernel) rfl rfl Try.underlying4 hW' rfl hb⟩
theorem over_clientPlays : Rows.clientPlaysRow.holds Try.pinned (OpenSpec.ofChange Rows.clientPlaysSpec) :=
  OpenClaim.holds_of_wide 4 Try.f4 rfl rfl rfl rfl rfl rfl rfl ⟨rfl, rfl, rfl, rfl, rfl⟩ rfl rfl rfl rfl rfl (by kernel_rfl) Try.func4 (by kernel_rfl)
    (of_decide_eq_true (by kernel_rfl)) (by unfold Func.isWrapper; first | (rw [if_pos (by decide +kernel)]; kernel_rfl) | (rw [if_neg (by decide +kernel)]; exact ⟨rfl, rfl⟩))
    (fun os started H enc _ => lifted_clientPlays os started H enc)
theorem clientPlays_proved : Rows.ClientPlaysSaid := over_clientPlays
#print axioms clientPlays_proved
end Go.Proofs.Ytehjfilnfpkjkaa
