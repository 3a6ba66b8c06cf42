/-
  (the law) Any elements: by which each is 1; one that is 0 among them.
-/
import Derived.Test.YtokdbedineoklaaFieldInvLaw
namespace Go.Proofs.Ytokdbedineoklaa
open Go.ChangeShapes Go.WideShapes Go.ChangeAt Go.RowKit F Flow
set_option linter.unusedVariables false

theorem fieldInverses_walk (n : Int) (A : Option Addr) (xs : List Int) (c : Nat) (wn : (Lit.int .u8 n).wf = true) (hm : xs.length ≤ maxLen) (hxs : ElemsOK xs) (w : World) (hA : ElemsAt w A xs) :
    Calls Try.prog 8 #[.int .u8 n, .slice A xs.length c] w fun e w' => e = .returned (.bool true) ∧ Below w.heap.size w w' := by
  have hn : 0 ≤ n ∧ n ≤ 255 := by simpa [Lit.wf, IntKind.min, IntKind.max, IntKind.signed, IntKind.bits] using wn
  by_cases hbig : 30 < xs.length
  · exact fieldInverses_big n A xs.length c hbig hm w
  · rcases Int.emod_two_eq n with h2 | h2
    · by_cases hz : ∃ i, i < xs.length ∧ redu 1 (xs.getD i 0) = 0
      · exact fieldInverses_zero n 1 A xs xs.length c (by omega) rfl hxs hz (F_even n h2 hn.1 hn.2) (by omega) fvalid_one (fone_any 1 (.inl rfl)) opBy_mul1 invBy1 w hA
      · exact fieldInverses_units n 1 A xs xs.length c (by omega) rfl hxs (fun i hi e => hz ⟨i, hi, e⟩) hn.1 hn.2 (F_even n h2 hn.1 hn.2) (by omega) fvalid_one (fone_any 1 (.inl rfl)) rinf_one opBy_mul1 invBy1 w hA
    · by_cases hz : ∃ i, i < xs.length ∧ redu 2 (xs.getD i 0) = 0
      · exact fieldInverses_zero n 2 A xs xs.length c (by omega) rfl hxs hz (F_odd n h2 hn.1 hn.2) (by omega) fvalid_two (fone_any 2 (.inr rfl)) opBy_mul2 invBy2 w hA
      · exact fieldInverses_units n 2 A xs xs.length c (by omega) rfl hxs (fun i hi e => hz ⟨i, hi, e⟩) hn.1 hn.2 (F_odd n h2 hn.1 hn.2) (by omega) fvalid_two (fone_any 2 (.inr rfl)) rinf_two opBy_mul2 invBy2 w hA

theorem own_fieldInverses : ownKnob Try.prog.godebug = none := by kernel_rfl
set_option maxRecDepth 100000 in
theorem lifted_fieldInverses (os : Os) (started : os.Started) (H : Type) (enc : TypeId × Value → H) :
    ReturnsInHanded {} Try.checked os 8 .any (Rows.fieldInversesSpec.pre6 enc Try.prog Try.f8 Rows.fieldInversesRow.domain false) (Rows.fieldInversesSpec.post enc Try.prog Try.f8 false true false false) := by
  refine returnsInHanded_of_change (C := Try.checked) own_fieldInverses started (by kernel_rfl) Try.func8
    (ChangeSpec.witness6 (enc := enc) (C := Try.checked) false ⟨#[], #[.int .u8 0, .slice none 0 0], []⟩ 8 (by kernel_rfl) (by kernel_rfl) (by kernel_rfl) (by kernel_rfl)) ?_
  intro W base args ds gs before hval0 hW hcnd _
  have hval : ∀ (j : Nat) t v, Try.f8.params[j]? = some t → args[j]? = some v → Value.okWide Try.prog W .any base t v := hval0
  have hW' := hW
  obtain ⟨p, q, hA0, hV, rfl, hfz, hnd⟩ := hW
  have hA : DataW.TrodAll enc Try.prog W 0 (fun _ => true) true Try.f8.params.toList args.toList ds p := hA0
  rw [Try.params8] at hA hval
  clear hA0 hval0
  obtain ⟨v0, vs0, d0, ds0, p0, q0, hargs, rfl, rfl, h0, r0⟩ := trodAll_cons hA
  obtain ⟨v1, vs1, d1, ds1, p1, q1, rfl, rfl, rfl, h1, r1⟩ := trodAll_cons r0
  obtain ⟨rfl, rfl, rfl⟩ := trodAll_nil r1
  obtain rfl : args = #[v0, v1] := by cases args; simp_all
  obtain ⟨rfl, rfl⟩ := trodVars_none hV
  obtain ⟨a0, rfl, _, _, w0⟩ := open_int Try.underlying5 (hval 0 5 v0 rfl rfl) h0
  obtain ⟨A1, x1, c1, rfl, l1, m1, e1, o1⟩ := open_elems (hval 1 43 v1 rfl rfl) h1
  refine (fieldInverses_walk a0 A1 x1 c1 w0 (Nat.le_trans l1 m1) o1 W e1).mono fun e W' ⟨he, hb⟩ => ?_
  subst he
  exact ⟨_, rfl, law_true (by decide +kernel) rfl rfl Try.underlying4 hW' rfl hb⟩
theorem over_fieldInverses : Rows.fieldInversesRow.holds Try.pinned (OpenSpec.ofChange Rows.fieldInversesSpec) :=
  OpenClaim.holds_of_wide 8 Try.f8 rfl rfl rfl rfl rfl rfl rfl ⟨rfl, rfl, rfl, rfl, rfl⟩ rfl rfl rfl rfl rfl (by kernel_rfl) Try.func8 (by kernel_rfl)
    (of_decide_eq_true (by kernel_rfl)) (by unfold Func.isWrapper; first | (rw [if_pos (by decide +kernel)]; kernel_rfl) | (rw [if_neg (by decide +kernel)]; exact ⟨rfl, rfl⟩))
    (fun os started H enc _ => lifted_fieldInverses os started H enc)
theorem fieldInverses_proved : Rows.FieldInversesSaid := over_fieldInverses
#print axioms fieldInverses_proved
end Go.Proofs.Ytokdbedineoklaa
