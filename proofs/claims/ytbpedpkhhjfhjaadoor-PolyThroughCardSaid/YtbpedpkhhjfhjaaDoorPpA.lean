/-
  PolyThrough, proved: any points, any values: the polynomial through them, no longer than there are points and without noughts at the end; two points that are one are an error, and so are lists of two lengths; for any byte as the field's number; where the listed tables read as the program lays them.
-/
import Derived.Test.YtbpedpkhhjfhjaaDoorPoZ
import Derived.Test.YtbpedpkhhjfhjaaDoorBX
import Derived.Test.YtbpedpkhhjfhjaaDoorElems
import Derived.Test.YtbpedpkhhjfhjaaDoorBB
import Derived.Test.YtbpedpkhhjfhjaaDoorFrame
namespace Go.Proofs.YtbpedpkhhjfhjaaDoor
open Go.ChangeShapes Go.WideShapes Go.ChangeAt Go.WideElems Go.RowKit F Flow
set_option linter.unusedVariables false

theorem wf_c0 {a : Int} (h : (Lit.int .u8 a).wf = true) : 0 ≤ a ∧ a ≤ 255 := by simpa [Lit.wf, IntKind.min, IntKind.max, IntKind.signed, IntKind.bits] using h
theorem polyThrough_walk (n : Int) (wn : (Lit.int .u8 n).wf = true) (A B : Option Addr) (ls ms : List Int) (c c2 : Nat) (hm : ls.length ≤ maxLen) (hm2 : ms.length ≤ maxLen) (hls : ElemsOK ls) (hms : ElemsOK ms) (w : World) (hT : Tabs w) (hA : ElemsAt w A ls) (hB : ElemsAt w B ms) :
    Calls Tryd.prog 5 #[.int .u8 n, .slice A ls.length c, .slice B ms.length c2] w fun e w' => e = .returned (.bool true) ∧ Below w.heap.size w w' := by
  have hn := wf_c0 wn
  rcases Int.emod_two_eq n with h | h
  · exact polyThrough_f n 1 (F_even n h hn.1 hn.2) ft_one (by omega) A B ls ms _ c _ c2 rfl hm hls rfl hm2 hms w hT hA hB
  · exact polyThrough_f n 2 (F_odd n h hn.1 hn.2) ft_two (by omega) A B ls ms _ c _ c2 rfl hm hls rfl hm2 hms w hT hA hB

theorem doorMet_polyThrough (os : Os) (args : Array Value) : laidMetH Tryd.prog Rows.polyThroughRow.laid ((World.doorLaid Tryd.prog 4000 os).forCall (fun _ _ => 0) ⟨#[], args, []⟩).memory :=
  laidMetH_of_parts3 (fuel := 200) (laidMet_of_run' 200 (by kernel_rfl) (by kernel_rfl)) (by kernel_rfl) (by kernel_rfl)
set_option maxRecDepth 100000 in
theorem lifted_polyThrough (os : Os) (started : os.Started) (H : Type) (enc : TypeId × Value → H) :
    ReturnsInHanded {} Tryd.checked os 5 .any (fun w args => (Rows.polyThroughSpec.pre enc Tryd.prog Tryd.f5 [] false w args ∧ laidMetH Tryd.prog Rows.polyThroughRow.laid w) ∧ sizedMet enc Tryd.prog Tryd.f5 (OpenSpec.ofChange Rows.polyThroughSpec) false w args)
      (Rows.polyThroughSpec.post enc Tryd.prog Tryd.f5 false true false false) := by
  refine returnsInHanded_of_change_and (C := Tryd.checked) (X := fun w _ => laidMetH Tryd.prog Rows.polyThroughRow.laid w) (fun _ _ _ hh h => h.of_heap hh) card_own started (by kernel_rfl) Tryd.func5
    (ChangeSpec.witness_shaped (enc := enc) (C := Tryd.checked) (os := os) (X := fun w _ => laidMetH Tryd.prog Rows.polyThroughRow.laid w) false (World.doorLaid Tryd.prog 4000 os) #[.int .u8 0, .slice none 0 0, .slice none 0 0] 8 rfl (World.shaped_of_RefB (by kernel_rfl) (by kernel_rfl)) (by kernel_rfl) (by kernel_rfl) (by kernel_rfl) (doorMet_polyThrough os _)) ?_
  intro W base args ds gs before hval0 hW _ _ hL _
  have hval : ∀ (j : Nat) t v, Tryd.f5.params[j]? = some t → args[j]? = some v → Value.okWide Tryd.prog W .any base t v := hval0
  have hW' := hW
  obtain ⟨p, q, hA0, hV, rfl, hfz, hnd⟩ := hW
  have hA : DataW.TrodAll enc Tryd.prog W 0 (fun _ => true) true Tryd.f5.params.toList args.toList ds p := hA0
  rw [Tryd.params5] at hA hval
  clear hA0 hval0
  obtain ⟨v0, vs0, d0, ds0, p0, q0, hargs, rfl, rfl, h0, r0⟩ := trodAll_cons hA
  obtain ⟨v1, vs1, d1, ds1, p1, q1, rfl, rfl, rfl, h1, r1⟩ := trodAll_cons r0
  obtain ⟨v2, vs2, d2, ds2, p2, q2, rfl, rfl, rfl, h2, r2⟩ := trodAll_cons r1
  obtain ⟨rfl, rfl, rfl⟩ := trodAll_nil r2
  obtain rfl : args = #[v0, v1, v2] := by cases args; simp_all
  obtain ⟨rfl, rfl⟩ := trodVars_none hV
  obtain ⟨a0, rfl, _, _, w0⟩ := open_int Tryd.underlying5 (hval 0 5 v0 rfl rfl) h0
  obtain ⟨A1, x1, c1, rfl, l1, m1, e1, o1⟩ := open_elems (hval 1 22 v1 rfl rfl) h1
  obtain ⟨A2, x2, c2, rfl, l2, m2, e2, o2⟩ := open_elems (hval 2 22 v2 rfl rfl) h2
  refine (polyThrough_walk a0 w0 A1 A2 x1 x2 c1 c2 (Nat.le_trans l1 m1) (Nat.le_trans l2 m2) o1 o2 W (tabs_of hL) e1 e2).mono fun e W' ⟨he, hb⟩ => ?_
  subst he
  exact ⟨_, rfl, law_true (by decide +kernel) rfl rfl Tryd.underlying4 hW' rfl hb⟩
theorem over_polyThrough : Rows.polyThroughRow.holds Tryd.pinned (OpenSpec.ofChange Rows.polyThroughSpec) :=
  OpenClaim.holds_of_wide 5 Tryd.f5 rfl rfl rfl rfl rfl rfl rfl ⟨rfl, rfl, rfl, rfl, rfl⟩ rfl rfl rfl rfl rfl (by kernel_rfl) Tryd.func5 (by kernel_rfl)
    (of_decide_eq_true (by kernel_rfl)) (by unfold Func.isWrapper; first | (rw [if_pos (by decide +kernel)]; kernel_rfl) | (rw [if_neg (by decide +kernel)]; exact ⟨rfl, rfl⟩))
    (fun os started H enc _ => lifted_polyThrough os started H enc)
theorem card_polyThrough : Claim7.holds Tryd.pinned (.plain (OpenSpec.ofChange Rows.polyThroughSpec)) Rows.polyThroughCard :=
  Claim7.holds_tied_plain_at .later [] Rows.polyThroughCard.laidKinds true Rows.polyThroughCard.stood.harness false
    over_polyThrough (fun _ h => by cases h) (by kernel_rfl) (fun _ h => by cases h) polyThrough_row_tie rfl ⟨rfl, rfl⟩ (by kernel_rfl) rfl
    (fun f fn hf hfn => by
      obtain rfl : f = 5 := Option.some.inj ((show Tryd.prog.funcNamed Rows.polyThroughRow.func = some 5 by kernel_rfl).symm.trans hf) |>.symm
      obtain rfl : fn = Tryd.f5 := (Option.some.inj (Tryd.func5.symm.trans hfn)).symm
      exact ⟨by kernel_rfl, fun j t ht => by
        rw [Tryd.params5] at ht
        have hm : t ∈ [5, 22, 22] := by simpa using Array.mem_of_getElem? ht
        have hall : ([5, 22, 22].all fun u => !Tryd.prog.wantsStandIn u) = true := by kernel_rfl
        exact (show Tryd.prog.wantsStandIn t = false by simpa using List.all_eq_true.1 hall t hm)⟩)
    (by kernel_rfl)
theorem polyThrough_proved : Rows.PolyThroughCardSaid := card_polyThrough
#print axioms polyThrough_proved
end Go.Proofs.YtbpedpkhhjfhjaaDoor
