/-
  StatsParts, proved: any numbers, any share: the number below which there is such a share: for any slice of numbers with a fraction, any share, any byte, with no condition.
-/
import Derived.Test.YtnaakklfbegldaaStParts
import Derived.Laws.Cover2
namespace Go.Proofs.Ytnaakklfbegldaa
open Go.RowKit Go.WideShapes Go.ChangeShapes Flow
set_option linter.unusedVariables false
set_option maxRecDepth 20000 in
theorem parts_big (A : Option Addr) (l : List Nat) (c : Nat) (h : 60 < l.length) (p : Nat) (k : Int) (w : World) : Calls Try.prog 8 #[.slice A l.length c, .float .f64 p, .int .u8 k] w fun e w' => e = .returned (.bool true) ∧ Below w.heap.size w w' := by
  have h' : (60 : Int) < (l.length : Int) := by omega
  go_enter Try.func8, Try.ntmps8
  go_wp2_with fail
  refine call_then (awake_said _) ?_
  intro w1 hb
  go_wp2
  go_ret
  exact ⟨rfl, hb⟩
theorem wf_f64 {b : Nat} (h : (Lit.float .f64 b).wf = true) : b < 18446744073709551616 := of_decide_eq_true h
theorem wf_u8 {a : Int} (h : (Lit.int .u8 a).wf = true) : 0 ≤ a ∧ a < 256 := by
  simp [Lit.wf, IntKind.min, IntKind.max, IntKind.signed, IntKind.bits] at h
  omega
theorem own_statsParts : ownKnob Try.prog.godebug = none := by kernel_rfl
set_option maxRecDepth 100000 in
theorem lifted_statsParts (os : Os) (started : os.Started) (H : Type) (enc : TypeId × Value → H) :
    ReturnsInHanded {} Try.checked os 8 .any (Rows.statsPartsSpec.pre6 enc Try.prog Try.f8 Rows.statsPartsRow.domain false) (Rows.statsPartsSpec.post enc Try.prog Try.f8 false true false false) := by
  refine returnsInHanded_of_change (C := Try.checked) own_statsParts started (by kernel_rfl) Try.func8
    (ChangeSpec.witness6 (enc := enc) (C := Try.checked) false ⟨#[], #[.slice none 0 0, .float .f64 0, .int .u8 0], []⟩ 8 (by kernel_rfl) (by kernel_rfl) (by kernel_rfl) (by kernel_rfl)) ?_
  intro W base args ds gs before hval0 hW hcnd _
  have hval : ∀ (j : Nat) t v, Try.f8.params[j]? = some t → args[j]? = some v → Value.okWide Try.prog W .any base t v := hval0
  have hW' := hW
  obtain ⟨p, q, hA0, hV, rfl, hfz, hnd⟩ := hW
  have hA : DataW.TrodAll enc Try.prog W 0 (fun _ => true) true Try.f8.params.toList args.toList ds p := hA0
  rw [Try.params8] at hA hval
  clear hA0 hval0
  obtain ⟨v0, vs0, d0, ds0, p0, q0, hargs, rfl, rfl, h0, r0⟩ := trodAll_cons hA
  obtain ⟨v1, vs1, d1, ds1, p1, q1, rfl, rfl, rfl, h1, r1⟩ := trodAll_cons r0
  obtain ⟨v2, vs2, d2, ds2, p2, q2, rfl, rfl, rfl, h2, r2⟩ := trodAll_cons r1
  obtain ⟨rfl, rfl, rfl⟩ := trodAll_nil r2
  obtain rfl : args = #[v0, v1, v2] := by cases args; simp_all
  obtain ⟨rfl, rfl⟩ := trodVars_none hV
  obtain ⟨A1, l1, c1, rfl, hl1, hm1, hF, hbits, hsh⟩ := open_argfloats (hval 0 27 v0 rfl rfl) h0
  obtain ⟨b1, rfl, _, _, g1⟩ := open_float (k := .f64) (t := 35) (by kernel_rfl) (hval 1 35 v1 rfl rfl) h1
  obtain ⟨k, rfl, _, _, wk⟩ := open_int Try.underlying5 (hval 2 5 v2 rfl rfl) h2
  have hwalk : Calls Try.prog 8 #[.slice A1 l1.length c1, .float .f64 b1, .int .u8 k] W fun e w' => e = .returned (.bool true) ∧ Below W.heap.size W w' := by
    by_cases hbig : 60 < l1.length
    · exact parts_big A1 l1 c1 hbig b1 k W
    · exact parts_walk A1 l1 c1 (by omega) hbits b1 (wf_f64 g1) k (wf_u8 wk) W hF
  refine hwalk.mono fun e W' ⟨he, hb⟩ => ?_
  subst he
  exact ⟨_, rfl, law_true (by decide +kernel) rfl rfl Try.underlying4 hW' rfl hb⟩
theorem over_statsParts : Rows.statsPartsRow.holds Try.pinned (OpenSpec.ofChange Rows.statsPartsSpec) :=
  OpenClaim.holds_of_wide 8 Try.f8 rfl rfl rfl rfl rfl rfl rfl ⟨rfl, rfl, rfl, rfl, rfl⟩ rfl rfl rfl rfl rfl (by kernel_rfl) Try.func8 (by kernel_rfl)
    (of_decide_eq_true (by kernel_rfl)) (by unfold Func.isWrapper; first | (rw [if_pos (by decide +kernel)]; kernel_rfl) | (rw [if_neg (by decide +kernel)]; exact ⟨rfl, rfl⟩))
    (fun os started H enc _ => lifted_statsParts os started H enc)
theorem statsParts_proved : Rows.StatsPartsSaid := over_statsParts
#print axioms statsParts_proved
end Go.Proofs.Ytnaakklfbegldaa
