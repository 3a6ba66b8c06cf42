/-
  CircuitSizes, proved: of any circuit, and of any small one: whether it may be one, and how many elements all of it has; for any six numbers of a circuit and any small ones, with no condition.
-/
import Derived.Test.YtgdokfchfgnbbaaCjS
import Derived.Test.YtgdokfchfgnbbaaCjN
namespace Go.Proofs.Ytgdokfchfgnbbaa
open Go.RowKit Go.WideShapes Go.ChangeShapes F Flow
set_option linter.unusedVariables false

theorem own_circuitSizes : ownKnob Try.prog.godebug = none := by kernel_rfl
set_option maxRecDepth 100000 in
theorem lifted_circuitSizes (os : Os) (started : os.Started) (H : Type) (enc : TypeId × Value → H) :
    ReturnsInHanded {} Try.checked os 3 .any (Rows.circuitSizesSpec.pre6 enc Try.prog Try.f3 Rows.circuitSizesRow.domain false) (Rows.circuitSizesSpec.post enc Try.prog Try.f3 false true false false) := by
  refine returnsInHanded_of_change (C := Try.checked) own_circuitSizes started (by kernel_rfl) Try.func3
    (ChangeSpec.witness6 (enc := enc) (C := Try.checked) false ⟨#[], #[.agg #[.int .u8 0, .int .u8 0, .int .i64 0, .int .i64 0, .int .i64 0, .int .i64 0], .agg #[.int .u8 0, .int .u8 0, .int .u8 0, .int .u8 0, .int .u8 0, .int .u8 0]], []⟩ 8 (by kernel_rfl) (by kernel_rfl) (by kernel_rfl) (by kernel_rfl)) ?_
  intro W base args ds gs before hval0 hW hcnd _
  have hval : ∀ (j : Nat) t v, Try.f3.params[j]? = some t → args[j]? = some v → Value.okWide Try.prog W .any base t v := hval0
  have hW' := hW
  obtain ⟨p, q, hA0, hV, rfl, hfz, hnd⟩ := hW
  have hA : DataW.TrodAll enc Try.prog W 0 (fun _ => true) true Try.f3.params.toList args.toList ds p := hA0
  rw [Try.params3] at hA hval
  clear hA0 hval0
  obtain ⟨v0, vs0, d0, ds0, p0, q0, hargs, rfl, rfl, h0, r0⟩ := trodAll_cons hA
  obtain ⟨v1, vs1, d1, ds1, p1, q1, rfl, rfl, rfl, h1, r1⟩ := trodAll_cons r0
  obtain ⟨rfl, rfl, rfl⟩ := trodAll_nil r1
  obtain rfl : args = #[v0, v1] := by cases args; simp_all
  obtain ⟨rfl, rfl⟩ := trodVars_none hV
  obtain ⟨x0, rfl, ck0, ck1, cf0, cf1⟩ := open_circuit (hval 0 25 v0 rfl rfl) h0
  obtain ⟨K, F', B, L, W', C, rfl, s⟩ := open_small (hval 1 27 v1 rfl rfl) h1
  refine (sizes_walk x0 K F' B L W' C ck0 ck1 cf0 cf1 s.k0 s.k1 s.f0 s.f1 s.b0 s.b1 s.l0 s.l1 s.w0 s.w1 s.c0 s.c1 W).mono fun e W' ⟨he, hb⟩ => ?_
  subst he
  exact ⟨_, rfl, law_true (by decide +kernel) rfl rfl Try.underlying4 hW' rfl hb⟩
theorem over_circuitSizes : Rows.circuitSizesRow.holds Try.pinned (OpenSpec.ofChange Rows.circuitSizesSpec) :=
  OpenClaim.holds_of_wide 3 Try.f3 rfl rfl rfl rfl rfl rfl rfl ⟨rfl, rfl, rfl, rfl, rfl⟩ rfl rfl rfl rfl rfl (by kernel_rfl) Try.func3 (by kernel_rfl)
    (of_decide_eq_true (by kernel_rfl)) (by unfold Func.isWrapper; first | (rw [if_pos (by decide +kernel)]; kernel_rfl) | (rw [if_neg (by decide +kernel)]; exact ⟨rfl, rfl⟩))
    (fun os started H enc _ => lifted_circuitSizes os started H enc)
theorem circuitSizes_proved : Rows.CircuitSizesSaid := over_circuitSizes
#print axioms circuitSizes_proved
end Go.Proofs.Ytgdokfchfgnbbaa
