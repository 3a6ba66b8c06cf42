/-
  TapeBack.
-/
import Derived.Test.YtobannolnjmegaaTpE
namespace Go.Proofs.Ytobannolnjmegaa
open Go.RowKit F Flow Go.WideShapes Go.ChangeShapes
set_option linter.unusedVariables false
set_option linter.unusedSimpArgs false

set_option maxHeartbeats 2000000 in
theorem tapeBack_big (n : Int) (A B C : Option Addr) (L Lm Lk c d e : Nat) (hm1 : L ≤ maxLen) (hm2 : Lm ≤ maxLen) (hm3 : Lk ≤ maxLen) (hbig : 20 < L ∨ 20 < Lm ∨ 20 < Lk) (w : World) :
    Calls Try.prog 4 #[.int .u8 n, .slice A L c, .slice B Lm d, .slice C Lk e] w fun e w' => e = .returned (.bool true) ∧ Below w.heap.size w w' := by
  unfold maxLen at hm1 hm2 hm3
  by_cases h1 : 20 < L
  · have b1 : (20 : Int) < (L : Int) := by omega
    clear hbig
    go_enter Try.func4, Try.ntmps4
    go_wp2_with fail
    refine call_then (tawake _) ?_
    intro w1 hb
    go_wp2
    go_ret
    exact ⟨rfl, hb⟩
  · by_cases h2 : 20 < Lm
    · have b1 : ¬ (20 : Int) < (L : Int) := by omega
      have b2 : (20 : Int) < (Lm : Int) := by omega
      clear hbig
      go_enter Try.func4, Try.ntmps4
      go_wp2_with fail
      refine call_then (tawake _) ?_
      intro w1 hb
      go_wp2
      go_ret
      exact ⟨rfl, hb⟩
    · have b1 : ¬ (20 : Int) < (L : Int) := by omega
      have b2 : ¬ (20 : Int) < (Lm : Int) := by omega
      have b3 : (20 : Int) < (Lk : Int) := by omega
      clear hbig
      go_enter Try.func4, Try.ntmps4
      go_wp2_with fail
      refine call_then (tawake _) ?_
      intro w1 hb
      go_wp2
      go_ret
      exact ⟨rfl, hb⟩
theorem tapeBack_walk (n : Int) (n0 : 0 ≤ n) (n1 : n ≤ 255) (ls ms ks : List Int) (A B C : Option Addr) (c d e : Nat) (hl : ElemsOK ls) (hm : ElemsOK ms) (hk : ElemsOK ks) (hm1 : ls.length ≤ maxLen) (hm2 : ms.length ≤ maxLen) (hm3 : ks.length ≤ maxLen)
    (w : World) (hA : ElemsAt w A ls) (hB : ElemsAt w B ms) (hC : ElemsAt w C ks) :
    Calls Try.prog 4 #[.int .u8 n, .slice A ls.length c, .slice B ms.length d, .slice C ks.length e] w fun e w' => e = .returned (.bool true) ∧ Below w.heap.size w w' := by
  by_cases hbig : 20 < ls.length ∨ 20 < ms.length ∨ 20 < ks.length
  · exact tapeBack_big n A B C _ _ _ c d e hm1 hm2 hm3 hbig w
  · rcases (show n % 2 = 0 ∨ n % 2 = 1 by omega) with h | h
    · exact tapeBack_small n 1 (by omega) (by omega) ls ms ks A B C _ _ _ c d e rfl rfl rfl (by omega) (by omega) (by omega) hl hm hk (F_even n h n0 n1) inYes1 (fval_yes 1 (.inl rfl)) opBy_sub1 w hA hB hC
    · exact tapeBack_small n 2 (by omega) (by omega) ls ms ks A B C _ _ _ c d e rfl rfl rfl (by omega) (by omega) (by omega) hl hm hk (F_odd n h n0 n1) inYes2 (fval_yes 2 (.inr rfl)) opBy_sub2 w hA hB hC

theorem own_tapeBack : ownKnob Try.prog.godebug = none := by kernel_rfl
set_option maxRecDepth 100000 in
theorem lifted_tapeBack (os : Os) (started : os.Started) (H : Type) (enc : TypeId × Value → H) :
    ReturnsInHanded {} Try.checked os 4 .any (Rows.tapeBackSpec.pre6 enc Try.prog Try.f4 Rows.tapeBackRow.domain false) (Rows.tapeBackSpec.post enc Try.prog Try.f4 false true false false) := by
  refine returnsInHanded_of_change (C := Try.checked) own_tapeBack started (by kernel_rfl) Try.func4
    (ChangeSpec.witness6 (enc := enc) (C := Try.checked) false ⟨#[], #[.int .u8 0, .slice none 0 0, .slice none 0 0, .slice none 0 0], []⟩ 8 (by kernel_rfl) (by kernel_rfl) (by kernel_rfl) (by kernel_rfl)) ?_
  intro W base args ds gs before hval0 hW hcnd _
  have hval : ∀ (j : Nat) t v, Try.f4.params[j]? = some t → args[j]? = some v → Value.okWide Try.prog W .any base t v := hval0
  have hW' := hW
  obtain ⟨p, q, hA0, hV, rfl, hfz, hnd⟩ := hW
  have hA : DataW.TrodAll enc Try.prog W 0 (fun _ => true) true Try.f4.params.toList args.toList ds p := hA0
  rw [Try.params4] at hA hval
  clear hA0 hval0
  obtain ⟨v0, vs0, d0, ds0, p0, q0, hargs, rfl, rfl, h0, r0⟩ := trodAll_cons hA
  obtain ⟨v1, vs1, d1, ds1, p1, q1, rfl, rfl, rfl, h1, r1⟩ := trodAll_cons r0
  obtain ⟨v2, vs2, d2, ds2, p2, q2, rfl, rfl, rfl, h2, r2⟩ := trodAll_cons r1
  obtain ⟨v3, vs3, d3, ds3, p3, q3, rfl, rfl, rfl, h3, r3⟩ := trodAll_cons r2
  obtain ⟨rfl, rfl, rfl⟩ := trodAll_nil r3
  obtain rfl : args = #[v0, v1, v2, v3] := by cases args; simp_all
  obtain ⟨rfl, rfl⟩ := trodVars_none hV
  obtain ⟨a0, rfl, _, _, w0⟩ := open_int Try.underlying5 (hval 0 5 v0 rfl rfl) h0
  obtain ⟨A, ls, c, rfl, e1, e2, hl, okl⟩ := open_elems (hval 1 22 v1 rfl rfl) h1
  obtain ⟨B, ms, d, rfl, e3, e4, hm, okm⟩ := open_elems (hval 2 22 v2 rfl rfl) h2
  obtain ⟨C, ks, e, rfl, e5, e6, hk, okk⟩ := open_elems (hval 3 22 v3 rfl rfl) h3
  have hr : 0 ≤ a0 ∧ a0 ≤ 255 := by simpa [Lit.wf, IntKind.min, IntKind.max, IntKind.signed, IntKind.bits] using w0
  refine (tapeBack_walk a0 hr.1 hr.2 ls ms ks A B C c d e okl okm okk (by omega) (by omega) (by omega) W hl hm hk).mono fun e W' ⟨he, hb⟩ => ?_
  subst he
  exact ⟨_, rfl, law_true (by decide +kernel) rfl rfl Try.underlying4 hW' rfl hb⟩
theorem over_tapeBack : Rows.tapeBackRow.holds Try.pinned (OpenSpec.ofChange Rows.tapeBackSpec) :=
  OpenClaim.holds_of_wide 4 Try.f4 rfl rfl rfl rfl rfl rfl rfl ⟨rfl, rfl, rfl, rfl, rfl⟩ rfl rfl rfl rfl rfl (by kernel_rfl) Try.func4 (by kernel_rfl)
    (of_decide_eq_true (by kernel_rfl)) (by unfold Func.isWrapper; first | (rw [if_pos (by decide +kernel)]; kernel_rfl) | (rw [if_neg (by decide +kernel)]; exact ⟨rfl, rfl⟩))
    (fun os started H enc _ => lifted_tapeBack os started H enc)
theorem tapeBack_proved : Rows.TapeBackSaid := over_tapeBack
#print axioms tapeBack_proved
end Go.Proofs.Ytobannolnjmegaa
