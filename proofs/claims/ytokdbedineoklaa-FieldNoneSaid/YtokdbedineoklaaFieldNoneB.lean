/-
  (the law) Whatever number it is, elements and bytes they are: what is no field has no sums, no roots, no bytes.
-/
import Derived.Test.YtokdbedineoklaaFieldNone
namespace Go.Proofs.Ytokdbedineoklaa
open Go.ChangeShapes Go.WideShapes Go.ChangeAt Go.RowKit F Flow
set_option linter.unusedVariables false

theorem wf_byte {a : Int} (h : (Lit.int .u8 a).wf = true) : 0 ≤ a ∧ a ≤ 255 := by
  simpa [Lit.wf, IntKind.min, IntKind.max, IntKind.signed, IntKind.bits] using h
theorem fieldNone_walk (n a b : Int) (A B : Option Addr) (xs ys : List Int) (c d : Nat) (hm : xs.length ≤ maxLen) (hm2 : ys.length ≤ maxLen) (hx : ElemsOK xs) (w : World) (hA : ElemsAt w A xs) :
    Calls Try.prog 4 #[.int .u8 n, .agg #[.int .u64 (lo a), .int .u64 (hi a)], .agg #[.int .u64 (lo b), .int .u64 (hi b)], .slice A xs.length c, .slice B ys.length d] w fun e w' => e = .returned (.bool true) ∧ Below w.heap.size w w' := by
  by_cases hbig : 50 < xs.length ∨ 50 < ys.length
  · exact fieldNone_big n a b A B xs ys c d hbig hm hm2 w
  · by_cases h1 : n = 1
    · subst h1; exact fieldNone_one a b A B xs ys c d (by omega) (by omega) w
    · by_cases h2 : n = 2
      · subst h2; exact fieldNone_two a b A B xs ys c d (by omega) (by omega) w
      · exact fieldNone_none n a b ⟨by simpa using h1, by simpa using h2⟩ A B xs ys c d (by omega) (by omega) hx w hA

theorem own_fieldNone : ownKnob Try.prog.godebug = none := by kernel_rfl
set_option maxRecDepth 100000 in
theorem lifted_fieldNone (os : Os) (started : os.Started) (H : Type) (enc : TypeId × Value → H) :
    ReturnsInHanded {} Try.checked os 4 .any (Rows.fieldNoneSpec.pre6 enc Try.prog Try.f4 Rows.fieldNoneRow.domain false) (Rows.fieldNoneSpec.post enc Try.prog Try.f4 false true false false) := by
  refine returnsInHanded_of_change (C := Try.checked) own_fieldNone started (by kernel_rfl) Try.func4
    (ChangeSpec.witness6 (enc := enc) (C := Try.checked) false ⟨#[], #[.int .u8 0, .agg #[.int .u64 0, .int .u64 0], .agg #[.int .u64 0, .int .u64 0], .slice none 0 0, .slice none 0 0], []⟩ 8 (by kernel_rfl) (by kernel_rfl) (by kernel_rfl) (by kernel_rfl)) ?_
  intro W base args ds gs before hval0 hW hcnd _
  have hval : ∀ (j : Nat) t v, Try.f4.params[j]? = some t → args[j]? = some v → Value.okWide Try.prog W .any base t v := hval0
  have hW' := hW
  obtain ⟨p, q, hA0, hV, rfl, hfz, hnd⟩ := hW
  have hA : DataW.TrodAll enc Try.prog W 0 (fun _ => true) true Try.f4.params.toList args.toList ds p := hA0
  rw [Try.params4] at hA hval
  clear hA0 hval0
  obtain ⟨v0, vs0, d0, ds0, p0, q0, hargs, rfl, rfl, h0, r0⟩ := trodAll_cons hA
  obtain ⟨v1, vs1, d1, ds1, p1, q1, rfl, rfl, rfl, h1, r1⟩ := trodAll_cons r0
  obtain ⟨v2, vs2, d2, ds2, p2, q2, rfl, rfl, rfl, h2, r2⟩ := trodAll_cons r1
  obtain ⟨v3, vs3, d3, ds3, p3, q3, rfl, rfl, rfl, h3, r3⟩ := trodAll_cons r2
  obtain ⟨v4, vs4, d4, ds4, p4, q4, rfl, rfl, rfl, h4, r4⟩ := trodAll_cons r3
  obtain ⟨rfl, rfl, rfl⟩ := trodAll_nil r4
  obtain rfl : args = #[v0, v1, v2, v3, v4] := by cases args; simp_all
  obtain ⟨rfl, rfl⟩ := trodVars_none hV
  obtain ⟨a0, rfl, _, _, w0⟩ := open_int Try.underlying5 (hval 0 5 v0 rfl rfl) h0
  obtain ⟨a1, w1, u1, rfl, _, _⟩ := open_elem (hval 1 24 v1 rfl rfl) h1
  obtain ⟨a2, w2, u2, rfl, _, _⟩ := open_elem (hval 2 24 v2 rfl rfl) h2
  obtain ⟨A3, x3, c3, rfl, l3, m3, e3, o3⟩ := open_elems (hval 3 43 v3 rfl rfl) h3
  obtain ⟨A4, x4, c4, rfl, l4, m4, e4, o4⟩ := open_bytes (hval 4 44 v4 rfl rfl) h4
  refine (fieldNone_walk a0 a1 a2 A3 A4 x3 x4 c3 c4 (Nat.le_trans l3 m3) (Nat.le_trans l4 m4) o3 W e3).mono fun e W' ⟨he, hb⟩ => ?_
  subst he
  exact ⟨_, rfl, law_true (by decide +kernel) rfl rfl Try.underlying4 hW' rfl hb⟩
theorem over_fieldNone : Rows.fieldNoneRow.holds Try.pinned (OpenSpec.ofChange Rows.fieldNoneSpec) :=
  OpenClaim.holds_of_wide 4 Try.f4 rfl rfl rfl rfl rfl rfl rfl ⟨rfl, rfl, rfl, rfl, rfl⟩ rfl rfl rfl rfl rfl (by kernel_rfl) Try.func4 (by kernel_rfl)
    (of_decide_eq_true (by kernel_rfl)) (by unfold Func.isWrapper; first | (rw [if_pos (by decide +kernel)]; kernel_rfl) | (rw [if_neg (by decide +kernel)]; exact ⟨rfl, rfl⟩))
    (fun os started H enc _ => lifted_fieldNone os started H enc)
theorem fieldNone_proved : Rows.FieldNoneSaid := over_fieldNone
#print axioms fieldNone_proved
end Go.Proofs.Ytokdbedineoklaa
