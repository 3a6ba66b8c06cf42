/-
  NttValues, proved: any list, as a polynomial: its values at the powers of the root, and back; for any byte as the field's number; where the listed table reads as the program lays it.
-/
import Derived.Test.YtnlnbikiocdpdaaDoorNtN
import Derived.Test.YtnlnbikiocdpdaaDoorCard
import Derived.Test.YtnlnbikiocdpdaaDoorElems
import Derived.Test.YtnlnbikiocdpdaaDoorPost
import Derived.Test.YtnlnbikiocdpdaaDoorFrame
namespace Go.Proofs.YtnlnbikiocdpdaaDoor
open Go.ChangeShapes Go.WideShapes Go.ChangeAt Go.WideElems Go.RowKit F Flow
set_option linter.unusedVariables false

theorem nttValues_walk (n : Int) (wn : (Lit.int .u8 n).wf = true) (A : Option Addr) (ls : List Int) (c : Nat) (hm : ls.length ≤ maxLen) (hls : ElemsOK ls) (w : World) (hT : Tabs w) (hA : ElemsAt w A ls) :
    Calls Tryd.prog 3 #[.int .u8 n, .slice A ls.length c] w fun e w' => e = .returned (.bool true) ∧ Below w.heap.size w w' := by
  have hn : 0 ≤ n ∧ n ≤ 255 := by simpa [Lit.wf, IntKind.min, IntKind.max, IntKind.signed, IntKind.bits] using wn
  rcases Int.emod_two_eq n with h | h
  · exact nttValues_f n 1 (F_even n h hn.1 hn.2) ft_one root_one (by omega) A ls _ c rfl hm hls w hT hA
  · exact nttValues_f n 2 (F_odd n h hn.1 hn.2) ft_two root_two (by omega) A ls _ c rfl hm hls w hT hA

theorem doorMet_nttValues (os : Os) (args : Array Value) : laidMetH Tryd.prog Rows.nttValuesRow.laid ((World.doorLaid Tryd.prog 4000 os).forCall (fun _ _ => 0) ⟨#[], args, []⟩).memory :=
  laidMetH_of_parts3 (fuel := 200) (laidMet_of_run' 200 (by kernel_rfl) (by kernel_rfl)) (by kernel_rfl) (by kernel_rfl)
set_option maxRecDepth 100000 in
theorem lifted_nttValues (os : Os) (started : os.Started) (H : Type) (enc : TypeId × Value → H) :
    ReturnsInHanded {} Tryd.checked os 3 .any (fun w args => (Rows.nttValuesSpec.pre enc Tryd.prog Tryd.f3 [] false w args ∧ laidMetH Tryd.prog Rows.nttValuesRow.laid w) ∧ sizedMet enc Tryd.prog Tryd.f3 (OpenSpec.ofChange Rows.nttValuesSpec) false w args)
      (Rows.nttValuesSpec.post enc Tryd.prog Tryd.f3 false true false false) := by
  refine returnsInHanded_of_change_and (C := Tryd.checked) (X := fun w _ => laidMetH Tryd.prog Rows.nttValuesRow.laid w) (fun _ _ _ hh h => h.of_heap hh) card_own started (by kernel_rfl) Tryd.func3
    (ChangeSpec.witness_shaped (enc := enc) (C := Tryd.checked) (os := os) (X := fun w _ => laidMetH Tryd.prog Rows.nttValuesRow.laid w) false (World.doorLaid Tryd.prog 4000 os) #[.int .u8 0, .slice none 0 0] 8 rfl (World.shaped_of_RefB (by kernel_rfl) (by kernel_rfl)) (by kernel_rfl) (by kernel_rfl) (by kernel_rfl) (doorMet_nttValues os _)) ?_
  intro W base args ds gs before hval0 hW _ _ hL _
  have hval : ∀ (j : Nat) t v, Tryd.f3.params[j]? = some t → args[j]? = some v → Value.okWide Tryd.prog W .any base t v := hval0
  have hW' := hW
  obtain ⟨p, q, hA0, hV, rfl, hfz, hnd⟩ := hW
  have hA : DataW.TrodAll enc Tryd.prog W 0 (fun _ => true) true Tryd.f3.params.toList args.toList ds p := hA0
  rw [Tryd.params3] at hA hval
  clear hA0 hval0
  obtain ⟨v0, vs0, d0, ds0, p0, q0, hargs, rfl, rfl, h0, r0⟩ := trodAll_cons hA
  obtain ⟨v1, vs1, d1, ds1, p1, q1, rfl, rfl, rfl, h1, r1⟩ := trodAll_cons r0
  obtain ⟨rfl, rfl, rfl⟩ := trodAll_nil r1
  obtain rfl : args = #[v0, v1] := by cases args; simp_all
  obtain ⟨rfl, rfl⟩ := trodVars_none hV
  obtain ⟨a0, rfl, _, _, w0⟩ := open_int Tryd.underlying5 (hval 0 5 v0 rfl rfl) h0
  obtain ⟨A1, x1, c1, rfl, l1, m1, e1, o1⟩ := open_elems (hval 1 22 v1 rfl rfl) h1
  refine (nttValues_walk a0 w0 A1 x1 c1 (Nat.le_trans l1 m1) o1 W (tabs_of hL) e1).mono fun e W' ⟨he, hb⟩ => ?_
  subst he
  exact ⟨_, rfl, law_true (by decide +kernel) rfl rfl Tryd.underlying4 hW' rfl hb⟩
theorem over_nttValues : Rows.nttValuesRow.holds Tryd.pinned (OpenSpec.ofChange Rows.nttValuesSpec) :=
  OpenClaim.holds_of_wide 3 Tryd.f3 rfl rfl rfl rfl rfl rfl rfl ⟨rfl, rfl, rfl, rfl, rfl⟩ rfl rfl rfl rfl rfl (by kernel_rfl) Tryd.func3 (by kernel_rfl)
    (of_decide_eq_true (by kernel_rfl)) (by unfold Func.isWrapper; first | (rw [if_pos (by decide +kernel)]; kernel_rfl) | (rw [if_neg (by decide +kernel)]; exact ⟨rfl, rfl⟩))
    (fun os started H enc _ => lifted_nttValues os started H enc)
theorem card_nttValues : Claim7.holds Tryd.pinned (.plain (OpenSpec.ofChange Rows.nttValuesSpec)) Rows.nttValuesCard :=
  Claim7.holds_tied_plain_at .later [] Rows.nttValuesCard.laidKinds true Rows.nttValuesCard.stood.harness false
    over_nttValues (fun _ h => by cases h) (by kernel_rfl) (fun _ h => by cases h) nttValues_row_tie rfl ⟨rfl, rfl⟩ (by kernel_rfl) rfl
    (fun f fn hf hfn => by
      obtain rfl : f = 3 := Option.some.inj ((show Tryd.prog.funcNamed Rows.nttValuesRow.func = some 3 by kernel_rfl).symm.trans hf) |>.symm
      obtain rfl : fn = Tryd.f3 := (Option.some.inj (Tryd.func3.symm.trans hfn)).symm
      exact ⟨by kernel_rfl, fun j t ht => by
        rw [Tryd.params3] at ht
        have hm : t ∈ [5, 22] := by simpa using Array.mem_of_getElem? ht
        have hall : ([5, 22].all fun u => !Tryd.prog.wantsStandIn u) = true := by kernel_rfl
        exact (show Tryd.prog.wantsStandIn t = false by simpa using List.all_eq_true.1 hall t hm)⟩)
    (by kernel_rfl)
theorem nttValues_proved : Rows.NttValuesCardSaid := card_nttValues
#print axioms nttValues_proved
end Go.Proofs.YtnlnbikiocdpdaaDoor
