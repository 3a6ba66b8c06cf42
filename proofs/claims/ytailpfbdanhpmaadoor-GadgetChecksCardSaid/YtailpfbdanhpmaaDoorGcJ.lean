/-
  GadgetChecks, proved: any gadget whatsoever over any numbers: what it refuses, and that Of, Poly and Check refuse alike; for any byte as the field's number; where the listed tables read as the program lays them.
-/
import Derived.Test.YtailpfbdanhpmaaDoorGcI
import Derived.Test.YtailpfbdanhpmaaDoorBX
import Derived.Test.YtailpfbdanhpmaaDoorElemsOf
import Derived.Test.YtailpfbdanhpmaaDoorElems
import Derived.Test.YtailpfbdanhpmaaDoorBB
import Derived.Test.YtailpfbdanhpmaaDoorFrame
namespace Go.Proofs.YtailpfbdanhpmaaDoor
open Go.ChangeShapes Go.WideShapes Go.ChangeAt Go.WideElems Go.RowKit F Flow
set_option linter.unusedVariables false

set_option maxRecDepth 100000 in
theorem open_gadget {H : Type} {enc : TypeId × Value → H} {w : World} {base : Nat} {spare : Nat → Bool} {held : Bool} {r : Reach} {b0 : Nat} {v : Value} {d : DataW H} {p : List MemPlace}
    (hv : Value.okWide Tryd.prog w r b0 34 v) (h : DataW.Trod enc Tryd.prog w base spare held 34 v d p) : ∃ (k m : Int) (A : Option Addr) (xs : List Int) (c : Nat), v = gvl k A xs.length c m ∧ (Lit.int .u8 k).wf = true ∧ (Lit.int .i64 m).wf = true ∧ xs.length ≤ c ∧ ElemsAt w A xs ∧ ElemsOK xs := by
  obtain ⟨cs, rfl⟩ := okWide_struct Tryd.underlying34 hv
  obtain ⟨fuel, hf⟩ := h
  obtain ⟨ys, n, _, _, hl, hyl, hf⟩ := DataW.trod_struct Tryd.underlying34 hf
  rw [show (Tryd.prog).cellsOf 34 = 3 by kernel_rfl] at hl
  have hcs : (Value.agg cs.toArray).cells.toList = cs := rfl
  try simp only [hcs] at hl hf
  have hyl : ys.length = 3 := hyl
  have g0 : DataW.trod enc Tryd.prog w base spare held n 32 ((cs.drop 0).take ((Tryd.prog).cellsOf 32)) = ys[0]? := hf 0 _ rfl
  have g1 : DataW.trod enc Tryd.prog w base spare held n 22 ((cs.drop 1).take ((Tryd.prog).cellsOf 22)) = ys[1]? := hf 1 _ rfl
  have g2 : DataW.trod enc Tryd.prog w base spare held n 3 ((cs.drop 2).take ((Tryd.prog).cellsOf 3)) = ys[2]? := hf 2 _ rfl
  obtain ⟨c0, c1, c2, rfl⟩ : ∃ c0 c1 c2, cs = [c0, c1, c2] := by
    match cs, hl with
    | [c0, c1, c2], _ => exact ⟨c0, c1, c2, rfl⟩
  rw [show (Tryd.prog).cellsOf 32 = 1 by kernel_rfl, List.getElem?_eq_getElem (by omega)] at g0
  rw [show (Tryd.prog).cellsOf 3 = 1 by kernel_rfl, List.getElem?_eq_getElem (by omega)] at g2
  rw [show (Tryd.prog).cellsOf 22 = 1 by kernel_rfl, List.getElem?_eq_getElem (by omega)] at g1
  obtain ⟨k, e0, _, w0⟩ := DataW.trod_int Tryd.underlying32 g0
  obtain ⟨A, xs, c, e1, l1, m1, o1, k1⟩ := elems_of g1
  obtain ⟨m, e2, _, w2⟩ := DataW.trod_int Tryd.underlying3 g2
  simp at e0 e1 e2
  subst e0 e1 e2
  exact ⟨k, m, A, xs, c, rfl, w0, w2, l1, o1, k1⟩

theorem doorMet_gadgetChecks (os : Os) (args : Array Value) : laidMetH Tryd.prog Rows.gadgetChecksRow.laid ((World.doorLaid Tryd.prog 4000 os).forCall (fun _ _ => 0) ⟨#[], args, []⟩).memory :=
  laidMetH_of_parts3 (fuel := 200) (laidMet_of_run' 200 (by kernel_rfl) (by kernel_rfl)) (by kernel_rfl) (by kernel_rfl)
set_option maxRecDepth 100000 in
theorem lifted_gadgetChecks (os : Os) (started : os.Started) (H : Type) (enc : TypeId × Value → H) :
    ReturnsInHanded {} Tryd.checked os 4 .any (fun w args => (Rows.gadgetChecksSpec.pre enc Tryd.prog Tryd.f4 [] false w args ∧ laidMetH Tryd.prog Rows.gadgetChecksRow.laid w) ∧ sizedMet enc Tryd.prog Tryd.f4 (OpenSpec.ofChange Rows.gadgetChecksSpec) false w args)
      (Rows.gadgetChecksSpec.post enc Tryd.prog Tryd.f4 false true false false) := by
  refine returnsInHanded_of_change_and (C := Tryd.checked) (X := fun w _ => laidMetH Tryd.prog Rows.gadgetChecksRow.laid w) (fun _ _ _ hh h => h.of_heap hh) card_own started (by kernel_rfl) Tryd.func4
    (ChangeSpec.witness_shaped (enc := enc) (C := Tryd.checked) (os := os) (X := fun w _ => laidMetH Tryd.prog Rows.gadgetChecksRow.laid w) false (World.doorLaid Tryd.prog 4000 os) #[.int .u8 0, .agg #[.int .u8 0, .slice none 0 0, .int .i64 0], .slice none 0 0] 8 rfl (World.shaped_of_RefB (by kernel_rfl) (by kernel_rfl)) (by kernel_rfl) (by kernel_rfl) (by kernel_rfl) (doorMet_gadgetChecks os _)) ?_
  intro W base args ds gs before hval0 hW _ _ hL _
  have hval : ∀ (j : Nat) t v, Tryd.f4.params[j]? = some t → args[j]? = some v → Value.okWide Tryd.prog W .any base t v := hval0
  have hW' := hW
  obtain ⟨p, q, hA0, hV, rfl, hfz, hnd⟩ := hW
  have hA : DataW.TrodAll enc Tryd.prog W 0 (fun _ => true) true Tryd.f4.params.toList args.toList ds p := hA0
  rw [Tryd.params4] at hA hval
  clear hA0 hval0
  obtain ⟨v0, vs0, d0, ds0, p0, q0, hargs, rfl, rfl, h0, r0⟩ := trodAll_cons hA
  obtain ⟨v1, vs1, d1, ds1, p1, q1, rfl, rfl, rfl, h1, r1⟩ := trodAll_cons r0
  obtain ⟨v2, vs2, d2, ds2, p2, q2, rfl, rfl, rfl, h2, r2⟩ := trodAll_cons r1
  obtain ⟨rfl, rfl, rfl⟩ := trodAll_nil r2
  obtain rfl : args = #[v0, v1, v2] := by cases args; simp_all
  obtain ⟨rfl, rfl⟩ := trodVars_none hV
  obtain ⟨a0, rfl, _, _, w0⟩ := open_int Tryd.underlying5 (hval 0 5 v0 rfl rfl) h0
  obtain ⟨k1, m1, A1, x1, c1, rfl, wk1, wm1, l1, o1, k1'⟩ := open_gadget (hval 1 34 v1 rfl rfl) h1
  obtain ⟨A2, x2, c2, rfl, l2, m2, e2, o2⟩ := open_elems (hval 2 22 v2 rfl rfl) h2
  refine (gadgetChecks_walk a0 k1 m1 A1 A2 x1 x2 c1 c2 l1 k1' o2 W (tabs_of hL) o1 e2).mono fun e W' ⟨he, hb⟩ => ?_
  subst he
  exact ⟨_, rfl, law_true (by decide +kernel) rfl rfl Tryd.underlying4 hW' rfl hb⟩
theorem over_gadgetChecks : Rows.gadgetChecksRow.holds Tryd.pinned (OpenSpec.ofChange Rows.gadgetChecksSpec) :=
  OpenClaim.holds_of_wide 4 Tryd.f4 rfl rfl rfl rfl rfl rfl rfl ⟨rfl, rfl, rfl, rfl, rfl⟩ rfl rfl rfl rfl rfl (by kernel_rfl) Tryd.func4 (by kernel_rfl)
    (of_decide_eq_true (by kernel_rfl)) (by unfold Func.isWrapper; first | (rw [if_pos (by decide +kernel)]; kernel_rfl) | (rw [if_neg (by decide +kernel)]; exact ⟨rfl, rfl⟩))
    (fun os started H enc _ => lifted_gadgetChecks os started H enc)
theorem card_gadgetChecks : Claim7.holds Tryd.pinned (.plain (OpenSpec.ofChange Rows.gadgetChecksSpec)) Rows.gadgetChecksCard :=
  Claim7.holds_tied_plain_at .later [] Rows.gadgetChecksCard.laidKinds true Rows.gadgetChecksCard.stood.harness false
    over_gadgetChecks (fun _ h => by cases h) (by kernel_rfl) (fun _ h => by cases h) gadgetChecks_row_tie rfl ⟨rfl, rfl⟩ (by kernel_rfl) rfl
    (fun f fn hf hfn => by
      obtain rfl : f = 4 := Option.some.inj ((show Tryd.prog.funcNamed Rows.gadgetChecksRow.func = some 4 by kernel_rfl).symm.trans hf) |>.symm
      obtain rfl : fn = Tryd.f4 := (Option.some.inj (Tryd.func4.symm.trans hfn)).symm
      exact ⟨by kernel_rfl, fun j t ht => by
        rw [Tryd.params4] at ht
        have hm : t ∈ [5, 34, 22] := by simpa using Array.mem_of_getElem? ht
        have hall : ([5, 34, 22].all fun u => !Tryd.prog.wantsStandIn u) = true := by kernel_rfl
        exact (show Tryd.prog.wantsStandIn t = false by simpa using List.all_eq_true.1 hall t hm)⟩)
    (by kernel_rfl)
theorem gadgetChecks_proved : Rows.GadgetChecksCardSaid := card_gadgetChecks
#print axioms gadgetChecks_proved
end Go.Proofs.YtailpfbdanhpmaaDoor
