/-
  CircuitShares, proved: what is said of shares, the gadget's answers being shared, adds up to what is said of the vector; of any small circuit, any vectors, any joint randomness and any answers, with no condition.
-/
import Derived.Test.YtgdokfchfgnbbaaClE
import Derived.Test.YtgdokfchfgnbbaaCjN
namespace Go.Proofs.Ytgdokfchfgnbbaa
open Go.RowKit Go.WideShapes Go.ChangeShapes F Flow
set_option linter.unusedVariables false

theorem own_circuitShares : ownKnob Try.prog.godebug = none := by kernel_rfl
set_option maxRecDepth 100000 in
theorem lifted_circuitShares (os : Os) (started : os.Started) (H : Type) (enc : TypeId × Value → H) :
    ReturnsInHanded {} Try.checked os 6 .any (Rows.circuitSharesSpec.pre6 enc Try.prog Try.f6 Rows.circuitSharesRow.domain false) (Rows.circuitSharesSpec.post enc Try.prog Try.f6 false true false false) := by
  refine returnsInHanded_of_change (C := Try.checked) own_circuitShares started (by kernel_rfl) Try.func6
    (ChangeSpec.witness6 (enc := enc) (C := Try.checked) false ⟨#[], #[.agg #[.int .u8 0, .int .u8 0, .int .u8 0, .int .u8 0, .int .u8 0, .int .u8 0], .slice none 0 0, .slice none 0 0, .slice none 0 0, .slice none 0 0], []⟩ 8 (by kernel_rfl) (by kernel_rfl) (by kernel_rfl) (by kernel_rfl)) ?_
  intro W base args ds gs before hval0 hW hcnd _
  have hval : ∀ (j : Nat) t v, Try.f6.params[j]? = some t → args[j]? = some v → Value.okWide Try.prog W .any base t v := hval0
  have hW' := hW
  obtain ⟨p, q, hA0, hV, rfl, hfz, hnd⟩ := hW
  have hA : DataW.TrodAll enc Try.prog W 0 (fun _ => true) true Try.f6.params.toList args.toList ds p := hA0
  rw [Try.params6] at hA hval
  clear hA0 hval0
  obtain ⟨v0, vs0, d0, ds0, p0, q0, hargs, rfl, rfl, h0, r0⟩ := trodAll_cons hA
  obtain ⟨v1, vs1, d1, ds1, p1, q1, rfl, rfl, rfl, h1, r1⟩ := trodAll_cons r0
  obtain ⟨v2, vs2, d2, ds2, p2, q2, rfl, rfl, rfl, h2, r2⟩ := trodAll_cons r1
  obtain ⟨v3, vs3, d3, ds3, p3, q3, rfl, rfl, rfl, h3, r3⟩ := trodAll_cons r2
  obtain ⟨v4, vs4, d4, ds4, p4, q4, rfl, rfl, rfl, h4, r4⟩ := trodAll_cons r3
  obtain ⟨rfl, rfl, rfl⟩ := trodAll_nil r4
  obtain rfl : args = #[v0, v1, v2, v3, v4] := by cases args; simp_all
  obtain ⟨rfl, rfl⟩ := trodVars_none hV
  obtain ⟨K, F', B, L, W', C, rfl, s⟩ := open_small (hval 0 27 v0 rfl rfl) h0
  obtain ⟨A1, x1, c1, rfl, l1, m1, e1, o1⟩ := open_elems (hval 1 38 v1 rfl rfl) h1
  obtain ⟨A2, x2, c2, rfl, l2, m2, e2, o2⟩ := open_elems (hval 2 38 v2 rfl rfl) h2
  obtain ⟨A3, x3, c3, rfl, l3, m3, e3, o3⟩ := open_elems (hval 3 38 v3 rfl rfl) h3
  obtain ⟨A4, x4, c4, rfl, l4, m4, e4, o4⟩ := open_elems (hval 4 38 v4 rfl rfl) h4
  refine (shares_walk K F' B L W' C x1 x2 x3 x4 A1 A2 A3 A4 x1.length x2.length x3.length x4.length c1 c2 c3 c4 rfl rfl rfl rfl o1 o2 o3 o4 (Nat.le_trans l1 m1) (Nat.le_trans l2 m2) (Nat.le_trans l3 m3) (Nat.le_trans l4 m4) s.k0 s.k1 s.f0 s.f1 s.b0 s.b1 s.l0 s.l1 s.w0 s.w1 s.c0 s.c1 W e1 e2 e3 e4).mono fun e W' ⟨he, hb⟩ => ?_
  subst he
  exact ⟨_, rfl, law_true (by decide +kernel) rfl rfl Try.underlying4 hW' rfl hb⟩
theorem over_circuitShares : Rows.circuitSharesRow.holds Try.pinned (OpenSpec.ofChange Rows.circuitSharesSpec) :=
  OpenClaim.holds_of_wide 6 Try.f6 rfl rfl rfl rfl rfl rfl rfl ⟨rfl, rfl, rfl, rfl, rfl⟩ rfl rfl rfl rfl rfl (by kernel_rfl) Try.func6 (by kernel_rfl)
    (of_decide_eq_true (by kernel_rfl)) (by unfold Func.isWrapper; first | (rw [if_pos (by decide +kernel)]; kernel_rfl) | (rw [if_neg (by decide +kernel)]; exact ⟨rfl, rfl⟩))
    (fun os started H enc _ => lifted_circuitShares os started H enc)
theorem circuitShares_proved : Rows.CircuitSharesSaid := over_circuitShares
#print axioms circuitShares_proved
end Go.Proofs.Ytgdokfchfgnbbaa
