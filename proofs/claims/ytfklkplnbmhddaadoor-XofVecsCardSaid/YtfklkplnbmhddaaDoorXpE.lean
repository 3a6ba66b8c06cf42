/-
  XofVecs: elements of a stream are its bytes taken in turn, what is no element passed over, as the document's oracle says them, where the two listed tables read as the program lays them.
-/
import Derived.Test.YtfklkplnbmhddaaDoorXpD
import Derived.Test.YtfklkplnbmhddaaDoorBX
import Derived.Test.YtfklkplnbmhddaaDoorElems
import Derived.Test.YtfklkplnbmhddaaDoorBB
import Derived.Test.YtfklkplnbmhddaaDoorFrame
import Derived.Test.YtfklkplnbmhddaaDoorBytesArg
namespace Go.Proofs.YtfklkplnbmhddaaDoor
open Go.ChangeShapes Go.WideShapes Go.ChangeAt Go.WideElems Go.RowKit F Flow
set_option linter.unusedVariables false

theorem vecs_any (A : Option Addr) (d : List Int) (cc : Nat) (nn mm : Int) (n0 : 0 ≤ nn) (n1 : nn < 256) (w : World) (hok : BytesOK d) (hA : ArgBytes w A d) (hcc : A = none → cc = 0) :
    Calls Tryd.prog 4 #[.slice A d.length cc, .int .u8 nn, .int .i64 mm] w fun e w' => e = .returned (.bool true) ∧ Below w.heap.size w w' := by
  by_cases hl : d.length ≤ 400
  · have h2 : nn % 2 = 0 ∨ nn % 2 = 1 := by omega
    rcases h2 with h | h
    · exact vecs_walk nn mm 1 8 takeBy_one fsize_one fvalid_one rinBy1 (by omega) (by decide) (by decide) (by decide) n0 n1 w A d cc hl hok hA hcc
    · exact vecs_walk nn mm 2 16 takeBy_two fsize_two fvalid_two rinBy2 (by omega) (by decide) (by decide) (by decide) n0 n1 w A d cc hl hok hA hcc
  · exact vecs_long A d.length cc nn mm (by omega) w
theorem u8_between {a : Int} (h : (Lit.int .u8 a).wf = true) : 0 ≤ a ∧ a < 256 := by
  have : 0 ≤ a ∧ a ≤ 255 := by simpa [Lit.wf, IntKind.min, IntKind.max, IntKind.signed, IntKind.bits] using h
  omega
theorem doorMet_xofVecs (os : Os) (args : Array Value) : laidMetH Tryd.prog Rows.xofVecsRow.laid ((World.doorLaid Tryd.prog 4000 os).forCall (fun _ _ => 0) ⟨#[], args, []⟩).memory :=
  laidMetH_of_parts3 (fuel := 200) (laidMet_of_run' 200 (by kernel_rfl) (by kernel_rfl)) (by kernel_rfl) (by kernel_rfl)
set_option maxRecDepth 100000 in
theorem lifted_xofVecs (os : Os) (started : os.Started) (H : Type) (enc : TypeId × Value → H) :
    ReturnsInHanded {} Tryd.checked os 4 .any (fun w args => (Rows.xofVecsSpec.pre enc Tryd.prog Tryd.f4 [] false w args ∧ laidMetH Tryd.prog Rows.xofVecsRow.laid w) ∧ sizedMet enc Tryd.prog Tryd.f4 (OpenSpec.ofChange Rows.xofVecsSpec) false w args)
      (Rows.xofVecsSpec.post enc Tryd.prog Tryd.f4 false true false false) := by
  refine returnsInHanded_of_change_and (C := Tryd.checked) (X := fun w _ => laidMetH Tryd.prog Rows.xofVecsRow.laid w) (fun _ _ _ hh h => h.of_heap hh) card_own started (by kernel_rfl) Tryd.func4
    (ChangeSpec.witness_shaped (enc := enc) (C := Tryd.checked) (os := os) (X := fun w _ => laidMetH Tryd.prog Rows.xofVecsRow.laid w) false (World.doorLaid Tryd.prog 4000 os) #[.slice none 0 0, .int .u8 0, .int .i64 0] 8 rfl (World.shaped_of_RefB (by kernel_rfl) (by kernel_rfl)) (by kernel_rfl) (by kernel_rfl) (by kernel_rfl) (doorMet_xofVecs os _)) ?_
  intro W base args ds gs before hval0 hW _ _ hL _
  have hval : ∀ (j : Nat) t v, Tryd.f4.params[j]? = some t → args[j]? = some v → Value.okWide Tryd.prog W .any base t v := hval0
  have hW' := hW
  obtain ⟨p, q, hA0, hV, rfl, hfz, hnd⟩ := hW
  have hA : DataW.TrodAll enc Tryd.prog W 0 (fun _ => true) true Tryd.f4.params.toList args.toList ds p := hA0
  rw [Tryd.params4] at hA hval
  clear hA0 hval0
  obtain ⟨v0, vs0, d0, ds0, p0, q0, hargs, rfl, rfl, h0, r0⟩ := trodAll_cons hA
  obtain ⟨v1, vs1, d1, ds1, p1, q1, rfl, rfl, rfl, h1, r1⟩ := trodAll_cons r0
  obtain ⟨v2, vs2, d2, ds2, p2, q2, rfl, rfl, rfl, h2, r2⟩ := trodAll_cons r1
  obtain ⟨rfl, rfl, rfl⟩ := trodAll_nil r2
  obtain rfl : args = #[v0, v1, v2] := by cases args; simp_all
  obtain ⟨rfl, rfl⟩ := trodVars_none hV
  obtain ⟨A, xs, c, rfl, -, -, hAB, hxs, hcc⟩ := open_argbytes (hval 0 29 v0 rfl rfl) h0
  obtain ⟨a1, rfl, _, _, w1⟩ := open_int Tryd.underlying5 (hval 1 5 v1 rfl rfl) h1
  obtain ⟨a2, rfl, _, _, w2⟩ := open_int Tryd.underlying3 (hval 2 3 v2 rfl rfl) h2
  refine (vecs_any A xs c a1 a2 (u8_between w1).1 (u8_between w1).2 W hxs hAB hcc).mono fun e W' ⟨he, hb⟩ => ?_
  subst he
  exact ⟨_, rfl, law_true (by decide +kernel) rfl rfl Tryd.underlying4 hW' rfl hb⟩
theorem over_xofVecs : Rows.xofVecsRow.holds Tryd.pinned (OpenSpec.ofChange Rows.xofVecsSpec) :=
  OpenClaim.holds_of_wide 4 Tryd.f4 rfl rfl rfl rfl rfl rfl rfl ⟨rfl, rfl, rfl, rfl, rfl⟩ rfl rfl rfl rfl rfl (by kernel_rfl) Tryd.func4 (by kernel_rfl)
    (of_decide_eq_true (by kernel_rfl)) (by unfold Func.isWrapper; first | (rw [if_pos (by decide +kernel)]; kernel_rfl) | (rw [if_neg (by decide +kernel)]; exact ⟨rfl, rfl⟩))
    (fun os started H enc _ => lifted_xofVecs os started H enc)
theorem card_xofVecs : Claim7.holds Tryd.pinned (.plain (OpenSpec.ofChange Rows.xofVecsSpec)) Rows.xofVecsCard :=
  Claim7.holds_tied_plain_at .later [] Rows.xofVecsCard.laidKinds true Rows.xofVecsCard.stood.harness false
    over_xofVecs (fun _ h => by cases h) (by kernel_rfl) (fun _ h => by cases h) xofVecs_row_tie rfl ⟨rfl, rfl⟩ (by kernel_rfl) rfl
    (fun f fn hf hfn => by
      obtain rfl : f = 4 := Option.some.inj ((show Tryd.prog.funcNamed Rows.xofVecsRow.func = some 4 by kernel_rfl).symm.trans hf) |>.symm
      obtain rfl : fn = Tryd.f4 := (Option.some.inj (Tryd.func4.symm.trans hfn)).symm
      exact ⟨by kernel_rfl, fun j t ht => by
        rw [Tryd.params4] at ht
        have hm : t ∈ [29, 5, 3] := by simpa using Array.mem_of_getElem? ht
        have hall : ([29, 5, 3].all fun u => !Tryd.prog.wantsStandIn u) = true := by kernel_rfl
        exact (show Tryd.prog.wantsStandIn t = false by simpa using List.all_eq_true.1 hall t hm)⟩)
    (by kernel_rfl)
theorem xofVecs_proved : Rows.XofVecsCardSaid := card_xofVecs
#print axioms xofVecs_proved
end Go.Proofs.YtfklkplnbmhddaaDoor
