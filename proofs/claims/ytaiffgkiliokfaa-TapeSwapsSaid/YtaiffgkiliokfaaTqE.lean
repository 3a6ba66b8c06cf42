/-
  TapeSwaps, proved: of two reports whose sums are the same the first shares are the same by other draws, and the second ones' sums; where the sums are others it is an error; of any small circuit and any lists, with no condition.
-/
import Derived.Test.YtaiffgkiliokfaaTqD
import Derived.Test.YtaiffgkiliokfaaCjN
namespace Go.Proofs.Ytaiffgkiliokfaa
open Go.RowKit Go.WideShapes Go.ChangeShapes F Flow
set_option linter.unusedVariables false

theorem own_tapeSwaps : ownKnob Try.prog.godebug = none := by kernel_rfl
set_option maxRecDepth 100000 in
theorem lifted_tapeSwaps (os : Os) (started : os.Started) (H : Type) (enc : TypeId × Value → H) :
    ReturnsInHanded {} Try.checked os 3 .any (Rows.tapeSwapsSpec.pre6 enc Try.prog Try.f3 Rows.tapeSwapsRow.domain false) (Rows.tapeSwapsSpec.post enc Try.prog Try.f3 false true false false) := by
  refine returnsInHanded_of_change (C := Try.checked) own_tapeSwaps started (by kernel_rfl) Try.func3
    (ChangeSpec.witness6 (enc := enc) (C := Try.checked) false ⟨#[], #[.agg #[.int .u8 0, .int .u8 0, .int .u8 0, .int .u8 0, .int .u8 0, .int .u8 0], .slice none 0 0, .slice none 0 0, .slice none 0 0, .slice none 0 0, .slice none 0 0, .bool false], []⟩ 8 (by kernel_rfl) (by kernel_rfl) (by kernel_rfl) (by kernel_rfl)) ?_
  intro W base args ds gs before hval0 hW hcnd _
  have hval : ∀ (j : Nat) t v, Try.f3.params[j]? = some t → args[j]? = some v → Value.okWide Try.prog W .any base t v := hval0
  have hW' := hW
  obtain ⟨p, q, hA0, hV, rfl, hfz, hnd⟩ := hW
  have hA : DataW.TrodAll enc Try.prog W 0 (fun _ => true) true Try.f3.params.toList args.toList ds p := hA0
  rw [Try.params3] at hA hval
  clear hA0 hval0
  obtain ⟨v0, vs0, d0, ds0, p0, q0, hargs, rfl, rfl, h0, r0⟩ := trodAll_cons hA
  obtain ⟨v1, vs1, d1, ds1, p1, q1, rfl, rfl, rfl, h1, r1⟩ := trodAll_cons r0
  obtain ⟨v2, vs2, d2, ds2, p2, q2, rfl, rfl, rfl, h2, r2⟩ := trodAll_cons r1
  obtain ⟨v3, vs3, d3, ds3, p3, q3, rfl, rfl, rfl, h3, r3⟩ := trodAll_cons r2
  obtain ⟨v4, vs4, d4, ds4, p4, q4, rfl, rfl, rfl, h4, r4⟩ := trodAll_cons r3
  obtain ⟨v5, vs5, d5, ds5, p5, q5, rfl, rfl, rfl, h5, r5⟩ := trodAll_cons r4
  obtain ⟨v6, vs6, d6, ds6, p6, q6, rfl, rfl, rfl, h6, r6⟩ := trodAll_cons r5
  obtain ⟨rfl, rfl, rfl⟩ := trodAll_nil r6
  obtain rfl : args = #[v0, v1, v2, v3, v4, v5, v6] := by cases args; simp_all
  obtain ⟨rfl, rfl⟩ := trodVars_none hV
  obtain ⟨K, F', B, L, W', C, rfl, s⟩ := open_small (hval 0 23 v0 rfl rfl) h0
  obtain ⟨A1, x1, c1, rfl, l1, m1, e1, o1⟩ := open_elems (hval 1 24 v1 rfl rfl) h1
  obtain ⟨A2, x2, c2, rfl, l2, m2, e2, o2⟩ := open_elems (hval 2 24 v2 rfl rfl) h2
  obtain ⟨A3, x3, c3, rfl, l3, m3, e3, o3⟩ := open_elems (hval 3 24 v3 rfl rfl) h3
  obtain ⟨A4, x4, c4, rfl, l4, m4, e4, o4⟩ := open_elems (hval 4 24 v4 rfl rfl) h4
  obtain ⟨A5, x5, c5, rfl, l5, m5, e5, o5⟩ := open_elems (hval 5 24 v5 rfl rfl) h5
  obtain ⟨a6, rfl, _, _⟩ := open_bool Try.underlying4 (hval 6 4 v6 rfl rfl) h6
  have hw : Calls Try.prog 3 #[svl K F' B L W' C, .slice A1 x1.length c1, .slice A2 x2.length c2, .slice A3 x3.length c3, .slice A4 x4.length c4, .slice A5 x5.length c5, .bool a6] W fun e w' => e = .returned (.bool true) ∧ Below W.heap.size W w' := by
    cases a6
    · exact swaps_false K F' B L W' C x1 x2 x3 x4 x5 A1 A2 A3 A4 A5 x1.length x2.length x3.length x4.length x5.length c1 c2 c3 c4 c5 rfl rfl rfl rfl rfl o1 o2 o3 o4 o5 (Nat.le_trans l1 m1) (Nat.le_trans l2 m2) (Nat.le_trans l3 m3) (Nat.le_trans l4 m4) (Nat.le_trans l5 m5) s.k0 s.k1 s.f0 s.f1 s.b0 s.b1 s.l0 s.l1 s.w0 s.w1 s.c0 s.c1 W e1 e2 e3 e4 e5
    · exact swaps_true K F' B L W' C x1 x2 x3 x4 x5 A1 A2 A3 A4 A5 x1.length x2.length x3.length x4.length x5.length c1 c2 c3 c4 c5 rfl rfl rfl rfl rfl o1 o2 o3 o4 o5 (Nat.le_trans l1 m1) (Nat.le_trans l2 m2) (Nat.le_trans l3 m3) (Nat.le_trans l4 m4) (Nat.le_trans l5 m5) s.k0 s.k1 s.f0 s.f1 s.b0 s.b1 s.l0 s.l1 s.w0 s.w1 s.c0 s.c1 W e1 e2 e3 e4 e5
  refine hw.mono fun e W' ⟨he, hb⟩ => ?_
  subst he
  exact ⟨_, rfl, law_true (by decide +kernel) rfl rfl Try.underlying4 hW' rfl hb⟩
theorem over_tapeSwaps : Rows.tapeSwapsRow.holds Try.pinned (OpenSpec.ofChange Rows.tapeSwapsSpec) :=
  OpenClaim.holds_of_wide 3 Try.f3 rfl rfl rfl rfl rfl rfl rfl ⟨rfl, rfl, rfl, rfl, rfl⟩ rfl rfl rfl rfl rfl (by kernel_rfl) Try.func3 (by kernel_rfl)
    (of_decide_eq_true (by kernel_rfl)) (by unfold Func.isWrapper; first | (rw [if_pos (by decide +kernel)]; kernel_rfl) | (rw [if_neg (by decide +kernel)]; exact ⟨rfl, rfl⟩))
    (fun os started H enc _ => lifted_tapeSwaps os started H enc)
theorem tapeSwaps_proved : Rows.TapeSwapsSaid := over_tapeSwaps
#print axioms tapeSwaps_proved
end Go.Proofs.Ytaiffgkiliokfaa
