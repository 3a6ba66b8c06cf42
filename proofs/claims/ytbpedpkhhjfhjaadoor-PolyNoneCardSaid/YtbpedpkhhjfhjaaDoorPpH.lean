/-
  PolyNone, proved: what is no field; too many points; lengths that are no power of two: each is its error, for any list, any point, any number; where the listed tables read as the program lays them.
-/
import Derived.Test.YtbpedpkhhjfhjaaDoorPpG
import Derived.Test.YtbpedpkhhjfhjaaDoorBX
import Derived.Test.YtbpedpkhhjfhjaaDoorElems
import Derived.Test.YtbpedpkhhjfhjaaDoorBB
import Derived.Test.YtbpedpkhhjfhjaaDoorFrame
namespace Go.Proofs.YtbpedpkhhjfhjaaDoor
open Go.ChangeShapes Go.WideShapes Go.ChangeAt Go.WideElems Go.RowKit F Flow
set_option linter.unusedVariables false

theorem wf_c2 {a : Int} (h : (Lit.int .u8 a).wf = true) : 0 ≤ a ∧ a ≤ 255 := by simpa [Lit.wf, IntKind.min, IntKind.max, IntKind.signed, IntKind.bits] using h
theorem polyNone_walk (f k x b : Int) (wb : (Lit.int .u8 b).wf = true) (x0 : 0 ≤ x) (x1 : x < 340282366920938463463374607431768211456) (A : Option Addr) (ls : List Int) (c : Nat) (hm : ls.length ≤ maxLen) (hls : ElemsOK ls) (w : World) (hT : Tabs w) (hA : ElemsAt w A ls) :
    Calls Tryd.prog 7 #[.int .u8 f, .slice A ls.length c, .int .i64 k, .agg #[.int .u64 (lo x), .int .u64 (hi x)], .int .u8 b] w fun e w' => e = .returned (.bool true) ∧ Below w.heap.size w w' := by
  have hb := wf_c2 wb
  by_cases hN : 40 < ls.length
  · exact polyNone_long f k x b A _ c hN hm w hT
  · by_cases h1 : f = 1
    · subst h1
      exact polyNone_field 1 k x b ft_one root_one hb.1 hb.2 x0 x1 A ls _ c rfl hls (by omega) w hT hA
    · by_cases h2 : f = 2
      · subst h2
        exact polyNone_field 2 k x b ft_two root_two hb.1 hb.2 x0 x1 A ls _ c rfl hls (by omega) w hT hA
      · exact polyNone_none f k x b ⟨by rw [beq_eq_false_iff_ne]; exact h1, by rw [beq_eq_false_iff_ne]; exact h2⟩ A _ c (by omega) w hT

theorem doorMet_polyNone (os : Os) (args : Array Value) : laidMetH Tryd.prog Rows.polyNoneRow.laid ((World.doorLaid Tryd.prog 4000 os).forCall (fun _ _ => 0) ⟨#[], args, []⟩).memory :=
  laidMetH_of_parts3 (fuel := 200) (laidMet_of_run' 200 (by kernel_rfl) (by kernel_rfl)) (by kernel_rfl) (by kernel_rfl)
set_option maxRecDepth 100000 in
theorem lifted_polyNone (os : Os) (started : os.Started) (H : Type) (enc : TypeId × Value → H) :
    ReturnsInHanded {} Tryd.checked os 7 .any (fun w args => (Rows.polyNoneSpec.pre enc Tryd.prog Tryd.f7 [] false w args ∧ laidMetH Tryd.prog Rows.polyNoneRow.laid w) ∧ sizedMet enc Tryd.prog Tryd.f7 (OpenSpec.ofChange Rows.polyNoneSpec) false w args)
      (Rows.polyNoneSpec.post enc Tryd.prog Tryd.f7 false true false false) := by
  refine returnsInHanded_of_change_and (C := Tryd.checked) (X := fun w _ => laidMetH Tryd.prog Rows.polyNoneRow.laid w) (fun _ _ _ hh h => h.of_heap hh) card_own started (by kernel_rfl) Tryd.func7
    (ChangeSpec.witness_shaped (enc := enc) (C := Tryd.checked) (os := os) (X := fun w _ => laidMetH Tryd.prog Rows.polyNoneRow.laid w) false (World.doorLaid Tryd.prog 4000 os) #[.int .u8 0, .slice none 0 0, .int .i64 0, .agg #[.int .u64 0, .int .u64 0], .int .u8 0] 8 rfl (World.shaped_of_RefB (by kernel_rfl) (by kernel_rfl)) (by kernel_rfl) (by kernel_rfl) (by kernel_rfl) (doorMet_polyNone os _)) ?_
  intro W base args ds gs before hval0 hW _ _ hL _
  have hval : ∀ (j : Nat) t v, Tryd.f7.params[j]? = some t → args[j]? = some v → Value.okWide Tryd.prog W .any base t v := hval0
  have hW' := hW
  obtain ⟨p, q, hA0, hV, rfl, hfz, hnd⟩ := hW
  have hA : DataW.TrodAll enc Tryd.prog W 0 (fun _ => true) true Tryd.f7.params.toList args.toList ds p := hA0
  rw [Tryd.params7] at hA hval
  clear hA0 hval0
  obtain ⟨v0, vs0, d0, ds0, p0, q0, hargs, rfl, rfl, h0, r0⟩ := trodAll_cons hA
  obtain ⟨v1, vs1, d1, ds1, p1, q1, rfl, rfl, rfl, h1, r1⟩ := trodAll_cons r0
  obtain ⟨v2, vs2, d2, ds2, p2, q2, rfl, rfl, rfl, h2, r2⟩ := trodAll_cons r1
  obtain ⟨v3, vs3, d3, ds3, p3, q3, rfl, rfl, rfl, h3, r3⟩ := trodAll_cons r2
  obtain ⟨v4, vs4, d4, ds4, p4, q4, rfl, rfl, rfl, h4, r4⟩ := trodAll_cons r3
  obtain ⟨rfl, rfl, rfl⟩ := trodAll_nil r4
  obtain rfl : args = #[v0, v1, v2, v3, v4] := by cases args; simp_all
  obtain ⟨rfl, rfl⟩ := trodVars_none hV
  obtain ⟨a0, rfl, _, _, w0⟩ := open_int Tryd.underlying5 (hval 0 5 v0 rfl rfl) h0
  obtain ⟨A1, x1, c1, rfl, l1, m1, e1, o1⟩ := open_elems (hval 1 22 v1 rfl rfl) h1
  obtain ⟨a2, rfl, _, _, w2⟩ := open_int Tryd.underlying3 (hval 2 3 v2 rfl rfl) h2
  obtain ⟨a3, w3, u3, rfl, _, _⟩ := open_elem (hval 3 25 v3 rfl rfl) h3
  obtain ⟨a4, rfl, _, _, w4⟩ := open_int Tryd.underlying5 (hval 4 5 v4 rfl rfl) h4
  refine (polyNone_walk a0 a2 a3 a4 w4 w3 u3 A1 x1 c1 (Nat.le_trans l1 m1) o1 W (tabs_of hL) e1).mono fun e W' ⟨he, hb⟩ => ?_
  subst he
  exact ⟨_, rfl, law_true (by decide +kernel) rfl rfl Tryd.underlying4 hW' rfl hb⟩
theorem over_polyNone : Rows.polyNoneRow.holds Tryd.pinned (OpenSpec.ofChange Rows.polyNoneSpec) :=
  OpenClaim.holds_of_wide 7 Tryd.f7 rfl rfl rfl rfl rfl rfl rfl ⟨rfl, rfl, rfl, rfl, rfl⟩ rfl rfl rfl rfl rfl (by kernel_rfl) Tryd.func7 (by kernel_rfl)
    (of_decide_eq_true (by kernel_rfl)) (by unfold Func.isWrapper; first | (rw [if_pos (by decide +kernel)]; kernel_rfl) | (rw [if_neg (by decide +kernel)]; exact ⟨rfl, rfl⟩))
    (fun os started H enc _ => lifted_polyNone os started H enc)
theorem card_polyNone : Claim7.holds Tryd.pinned (.plain (OpenSpec.ofChange Rows.polyNoneSpec)) Rows.polyNoneCard :=
  Claim7.holds_tied_plain_at .later [] Rows.polyNoneCard.laidKinds true Rows.polyNoneCard.stood.harness false
    over_polyNone (fun _ h => by cases h) (by kernel_rfl) (fun _ h => by cases h) polyNone_row_tie rfl ⟨rfl, rfl⟩ (by kernel_rfl) rfl
    (fun f fn hf hfn => by
      obtain rfl : f = 7 := Option.some.inj ((show Tryd.prog.funcNamed Rows.polyNoneRow.func = some 7 by kernel_rfl).symm.trans hf) |>.symm
      obtain rfl : fn = Tryd.f7 := (Option.some.inj (Tryd.func7.symm.trans hfn)).symm
      exact ⟨by kernel_rfl, fun j t ht => by
        rw [Tryd.params7] at ht
        have hm : t ∈ [5, 22, 3, 25, 5] := by simpa using Array.mem_of_getElem? ht
        have hall : ([5, 22, 3, 25, 5].all fun u => !Tryd.prog.wantsStandIn u) = true := by kernel_rfl
        exact (show Tryd.prog.wantsStandIn t = false by simpa using List.all_eq_true.1 hall t hm)⟩)
    (by kernel_rfl)
theorem polyNone_proved : Rows.PolyNoneCardSaid := card_polyNone
#print axioms polyNone_proved
end Go.Proofs.YtbpedpkhhjfhjaaDoor
