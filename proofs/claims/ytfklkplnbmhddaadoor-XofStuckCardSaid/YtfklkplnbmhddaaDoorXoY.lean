/-
  XofStuck: bytes that are no element are passed over up to 63 times; the 64th is an error, where the two listed tables read as the program lays them.
-/
import Derived.Test.YtfklkplnbmhddaaDoorXoW
import Derived.Test.YtfklkplnbmhddaaDoorBX
import Derived.Test.YtfklkplnbmhddaaDoorElems
import Derived.Test.YtfklkplnbmhddaaDoorBB
import Derived.Test.YtfklkplnbmhddaaDoorFrame
namespace Go.Proofs.YtfklkplnbmhddaaDoor
open Go.ChangeShapes Go.WideShapes Go.ChangeAt Go.WideElems Go.RowKit F Flow
set_option linter.unusedVariables false


theorem stuck_any (a nn mm : Int) (a0 : 0 ≤ a) (a1 : a < 256) (n0 : 0 ≤ nn) (n1 : nn < 256) (m0 : 0 ≤ mm) (m1 : mm < 256) (w : World) :
    Calls Tryd.prog 5 #[.int .u8 a, .int .u8 nn, .int .u8 mm] w fun e w' => e = .returned (.bool true) ∧ Below w.heap.size w w' := by
  have h2 : nn % 2 = 0 ∨ nn % 2 = 1 := by omega
  rcases h2 with h | h
  · exact stuck_walk a nn mm 1 8 takeBy_one fsize_one fvalid_one (by omega) (by decide) (by decide) (by decide) (by decide) a0 a1 n0 n1 m0 m1 w
  · exact stuck_walk a nn mm 2 16 takeBy_two fsize_two fvalid_two (by omega) (by decide) (by decide) (by decide) (by decide) a0 a1 n0 n1 m0 m1 w
theorem u8_range {a : Int} (h : (Lit.int .u8 a).wf = true) : 0 ≤ a ∧ a < 256 := by
  have : 0 ≤ a ∧ a ≤ 255 := by simpa [Lit.wf, IntKind.min, IntKind.max, IntKind.signed, IntKind.bits] using h
  omega
theorem doorMet_xofStuck (os : Os) (args : Array Value) : laidMetH Tryd.prog Rows.xofStuckRow.laid ((World.doorLaid Tryd.prog 4000 os).forCall (fun _ _ => 0) ⟨#[], args, []⟩).memory :=
  laidMetH_of_parts3 (fuel := 200) (laidMet_of_run' 200 (by kernel_rfl) (by kernel_rfl)) (by kernel_rfl) (by kernel_rfl)
set_option maxRecDepth 100000 in
theorem lifted_xofStuck (os : Os) (started : os.Started) (H : Type) (enc : TypeId × Value → H) :
    ReturnsInHanded {} Tryd.checked os 5 .any (fun w args => (Rows.xofStuckSpec.pre enc Tryd.prog Tryd.f5 [] false w args ∧ laidMetH Tryd.prog Rows.xofStuckRow.laid w) ∧ sizedMet enc Tryd.prog Tryd.f5 (OpenSpec.ofChange Rows.xofStuckSpec) false w args)
      (Rows.xofStuckSpec.post enc Tryd.prog Tryd.f5 false true false false) := by
  refine returnsInHanded_of_change_and (C := Tryd.checked) (X := fun w _ => laidMetH Tryd.prog Rows.xofStuckRow.laid w) (fun _ _ _ hh h => h.of_heap hh) card_own started (by kernel_rfl) Tryd.func5
    (ChangeSpec.witness_shaped (enc := enc) (C := Tryd.checked) (os := os) (X := fun w _ => laidMetH Tryd.prog Rows.xofStuckRow.laid w) false (World.doorLaid Tryd.prog 4000 os) #[.int .u8 0, .int .u8 0, .int .u8 0] 8 rfl (World.shaped_of_RefB (by kernel_rfl) (by kernel_rfl)) (by kernel_rfl) (by kernel_rfl) (by kernel_rfl) (doorMet_xofStuck os _)) ?_
  intro W base args ds gs before hval0 hW _ _ hL _
  have hval : ∀ (j : Nat) t v, Tryd.f5.params[j]? = some t → args[j]? = some v → Value.okWide Tryd.prog W .any base t v := hval0
  have hW' := hW
  obtain ⟨p, q, hA0, hV, rfl, hfz, hnd⟩ := hW
  have hA : DataW.TrodAll enc Tryd.prog W 0 (fun _ => true) true Tryd.f5.params.toList args.toList ds p := hA0
  rw [Tryd.params5] at hA hval
  clear hA0 hval0
  obtain ⟨v0, vs0, d0, ds0, p0, q0, hargs, rfl, rfl, h0, r0⟩ := trodAll_cons hA
  obtain ⟨v1, vs1, d1, ds1, p1, q1, rfl, rfl, rfl, h1, r1⟩ := trodAll_cons r0
  obtain ⟨v2, vs2, d2, ds2, p2, q2, rfl, rfl, rfl, h2, r2⟩ := trodAll_cons r1
  obtain ⟨rfl, rfl, rfl⟩ := trodAll_nil r2
  obtain rfl : args = #[v0, v1, v2] := by cases args; simp_all
  obtain ⟨rfl, rfl⟩ := trodVars_none hV
  obtain ⟨a0, rfl, _, _, w0⟩ := open_int Tryd.underlying5 (hval 0 5 v0 rfl rfl) h0
  obtain ⟨a1, rfl, _, _, w1⟩ := open_int Tryd.underlying5 (hval 1 5 v1 rfl rfl) h1
  obtain ⟨a2, rfl, _, _, w2⟩ := open_int Tryd.underlying5 (hval 2 5 v2 rfl rfl) h2
  refine (stuck_any a0 a1 a2 (u8_range w0).1 (u8_range w0).2 (u8_range w1).1 (u8_range w1).2 (u8_range w2).1 (u8_range w2).2 W).mono fun e W' ⟨he, hb⟩ => ?_
  subst he
  exact ⟨_, rfl, law_true (by decide +kernel) rfl rfl Tryd.underlying4 hW' rfl hb⟩
theorem over_xofStuck : Rows.xofStuckRow.holds Tryd.pinned (OpenSpec.ofChange Rows.xofStuckSpec) :=
  OpenClaim.holds_of_wide 5 Tryd.f5 rfl rfl rfl rfl rfl rfl rfl ⟨rfl, rfl, rfl, rfl, rfl⟩ rfl rfl rfl rfl rfl (by kernel_rfl) Tryd.func5 (by kernel_rfl)
    (of_decide_eq_true (by kernel_rfl)) (by unfold Func.isWrapper; first | (rw [if_pos (by decide +kernel)]; kernel_rfl) | (rw [if_neg (by decide +kernel)]; exact ⟨rfl, rfl⟩))
    (fun os started H enc _ => lifted_xofStuck os started H enc)
theorem card_xofStuck : Claim7.holds Tryd.pinned (.plain (OpenSpec.ofChange Rows.xofStuckSpec)) Rows.xofStuckCard :=
  Claim7.holds_tied_plain_at .later [] Rows.xofStuckCard.laidKinds true Rows.xofStuckCard.stood.harness false
    over_xofStuck (fun _ h => by cases h) (by kernel_rfl) (fun _ h => by cases h) xofStuck_row_tie rfl ⟨rfl, rfl⟩ (by kernel_rfl) rfl
    (fun f fn hf hfn => by
      obtain rfl : f = 5 := Option.some.inj ((show Tryd.prog.funcNamed Rows.xofStuckRow.func = some 5 by kernel_rfl).symm.trans hf) |>.symm
      obtain rfl : fn = Tryd.f5 := (Option.some.inj (Tryd.func5.symm.trans hfn)).symm
      exact ⟨by kernel_rfl, fun j t ht => by
        rw [Tryd.params5] at ht
        have hm : t ∈ [5, 5, 5] := by simpa using Array.mem_of_getElem? ht
        have hall : ([5, 5, 5].all fun u => !Tryd.prog.wantsStandIn u) = true := by kernel_rfl
        exact (show Tryd.prog.wantsStandIn t = false by simpa using List.all_eq_true.1 hall t hm)⟩)
    (by kernel_rfl)
theorem xofStuck_proved : Rows.XofStuckCardSaid := card_xofStuck
#print axioms xofStuck_proved
end Go.Proofs.YtfklkplnbmhddaaDoor
