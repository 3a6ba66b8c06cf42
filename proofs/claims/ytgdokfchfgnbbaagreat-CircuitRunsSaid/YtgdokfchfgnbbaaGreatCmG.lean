/-
  CircuitRuns, proved: of any vector and any joint randomness what a circuit says, the gadget being asked itself, is what the document says; it is asked as often as the circuit says; of a right vector nought is said; of any small circuit, any lists, with no condition.
-/
import Derived.Test.YtgdokfchfgnbbaaGreatCmF
import Derived.Test.YtgdokfchfgnbbaaGreatCjN
namespace Go.Proofs.YtgdokfchfgnbbaaGreat
open Go.RowKit Go.WideShapes Go.ChangeShapes F Flow
set_option linter.unusedVariables false

theorem own_circuitRuns : ownKnob Tryz.prog.godebug = none := by kernel_rfl
set_option maxRecDepth 100000 in
theorem lifted_circuitRuns (os : Os) (started : os.Started) (H : Type) (enc : TypeId × Value → H) :
    ReturnsInHanded {} Tryz.checked os 3 .any (Rows.circuitRunsSpec.pre6 enc Tryz.prog Tryz.f3 Rows.circuitRunsRow.domain false) (Rows.circuitRunsSpec.post enc Tryz.prog Tryz.f3 false true false false) := by
  refine returnsInHanded_of_change (C := Tryz.checked) own_circuitRuns started (by kernel_rfl) Tryz.func3
    (ChangeSpec.witness6 (enc := enc) (C := Tryz.checked) false ⟨#[], #[.agg #[.int .u8 0, .int .u8 0, .int .u8 0, .int .u8 0, .int .u8 0, .int .u8 0], .slice none 0 0, .slice none 0 0, .bool false], []⟩ 8 (by kernel_rfl) (by kernel_rfl) (by kernel_rfl) (by kernel_rfl)) ?_
  intro W base args ds gs before hval0 hW hcnd _
  have hval : ∀ (j : Nat) t v, Tryz.f3.params[j]? = some t → args[j]? = some v → Value.okWide Tryz.prog W .any base t v := hval0
  have hW' := hW
  obtain ⟨p, q, hA0, hV, rfl, hfz, hnd⟩ := hW
  have hA : DataW.TrodAll enc Tryz.prog W 0 (fun _ => true) true Tryz.f3.params.toList args.toList ds p := hA0
  rw [Tryz.params3] at hA hval
  clear hA0 hval0
  obtain ⟨v0, vs0, d0, ds0, p0, q0, hargs, rfl, rfl, h0, r0⟩ := trodAll_cons hA
  obtain ⟨v1, vs1, d1, ds1, p1, q1, rfl, rfl, rfl, h1, r1⟩ := trodAll_cons r0
  obtain ⟨v2, vs2, d2, ds2, p2, q2, rfl, rfl, rfl, h2, r2⟩ := trodAll_cons r1
  obtain ⟨v3, vs3, d3, ds3, p3, q3, rfl, rfl, rfl, h3, r3⟩ := trodAll_cons r2
  obtain ⟨rfl, rfl, rfl⟩ := trodAll_nil r3
  obtain rfl : args = #[v0, v1, v2, v3] := by cases args; simp_all
  obtain ⟨rfl, rfl⟩ := trodVars_none hV
  obtain ⟨K, F', B, L, W', C, rfl, s⟩ := open_small (hval 0 23 v0 rfl rfl) h0
  obtain ⟨A1, x1, c1, rfl, l1, m1, e1, o1⟩ := open_elems (hval 1 24 v1 rfl rfl) h1
  obtain ⟨A2, x2, c2, rfl, l2, m2, e2, o2⟩ := open_elems (hval 2 24 v2 rfl rfl) h2
  obtain ⟨a3, rfl, _, _⟩ := open_bool Tryz.underlying4 (hval 3 4 v3 rfl rfl) h3
  refine (runs_walk K F' B L W' C x1 x2 A1 A2 x1.length x2.length c1 c2 a3 rfl rfl o1 o2 (Nat.le_trans l1 m1) (Nat.le_trans l2 m2) s.k0 s.k1 s.f0 s.f1 s.b0 s.b1 s.l0 s.l1 s.w0 s.w1 s.c0 s.c1 W e1 e2).mono fun e W' ⟨he, hb⟩ => ?_
  subst he
  exact ⟨_, rfl, law_true (by decide +kernel) rfl rfl Tryz.underlying4 hW' rfl hb⟩
theorem over_circuitRuns : Rows.circuitRunsRow.holds Tryz.pinned (OpenSpec.ofChange Rows.circuitRunsSpec) :=
  OpenClaim.holds_of_wide 3 Tryz.f3 rfl rfl rfl rfl rfl rfl rfl ⟨rfl, rfl, rfl, rfl, rfl⟩ rfl rfl rfl rfl rfl (by kernel_rfl) Tryz.func3 (by kernel_rfl)
    (of_decide_eq_true (by kernel_rfl)) (by unfold Func.isWrapper; first | (rw [if_pos (by decide +kernel)]; kernel_rfl) | (rw [if_neg (by decide +kernel)]; exact ⟨rfl, rfl⟩))
    (fun os started H enc _ => lifted_circuitRuns os started H enc)
theorem circuitRuns_proved : Rows.CircuitRunsSaid := over_circuitRuns
#print axioms circuitRuns_proved
end Go.Proofs.YtgdokfchfgnbbaaGreat
