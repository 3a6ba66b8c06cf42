/-
  NttSizes, proved: any length, any number, any field's number, any list: whether they may be; where the listed table reads as the program lays it.
-/
import Derived.Test.YtnlnbikiocdpdaaDoorNtJ
import Derived.Test.YtnlnbikiocdpdaaDoorCard
import Derived.Test.YtnlnbikiocdpdaaDoorElems
import Derived.Test.YtnlnbikiocdpdaaDoorPost
import Derived.Test.YtnlnbikiocdpdaaDoorFrame
namespace Go.Proofs.YtnlnbikiocdpdaaDoor
open Go.ChangeShapes Go.WideShapes Go.ChangeAt Go.WideElems Go.RowKit F Flow
set_option linter.unusedVariables false

theorem sizes_long (n k f : Int) (A : Option Addr) (N c : Nat) (hN : 70 < N) (hm : N ≤ maxLen) (w : World) (hT : Tabs w) : Calls Tryd.prog 5 #[.int .i64 n, .int .i64 k, .int .u8 f, .slice A N c] w fun e w' => e = .returned (.bool true) ∧ Below w.heap.size w w' := by
  unfold maxLen at hm
  have h70 : (70 : Int) < (N : Int) := by omega
  go_enter Tryd.func5, Tryd.ntmps5
  go_wp2_with fail
  refine call_then (nawake _ hT) ?_
  intro w1 hb
  go_wp2
  go_ret
  exact ⟨rfl, hb⟩
theorem nttSizes_walk (n k f : Int) (A : Option Addr) (cs : List Int) (c : Nat) (hm : cs.length ≤ maxLen) (hcs : ElemsOK cs) (w : World) (hT : Tabs w) (hA : ElemsAt w A cs) :
    Calls Tryd.prog 5 #[.int .i64 n, .int .i64 k, .int .u8 f, .slice A cs.length c] w fun e w' => e = .returned (.bool true) ∧ Below w.heap.size w w' := by
  by_cases hN : cs.length ≤ 70
  · by_cases hp : ∃ m, m ≤ 10 ∧ 2 ^ m = cs.length
    · obtain ⟨m, hm10, hme⟩ := hp
      by_cases f1 : f = 1
      · subst f1
        by_cases hk : k < 0 ∨ 10 < k
        · exact sizes_bo_one n k hk cs hcs A _ c m hN hm10 hme.symm rfl w hT hA
        · obtain ⟨k, rfl⟩ := Int.eq_ofNat_of_zero_le (by omega : 0 ≤ k)
          exact sizes_oo_one n k (by omega) cs hcs A _ c m hN hm10 hme.symm rfl w hT hA
      · by_cases f2 : f = 2
        · subst f2
          by_cases hk : k < 0 ∨ 10 < k
          · exact sizes_bo_two n k hk cs hcs A _ c m hN hm10 hme.symm rfl w hT hA
          · obtain ⟨k, rfl⟩ := Int.eq_ofNat_of_zero_le (by omega : 0 ≤ k)
            exact sizes_oo_two n k (by omega) cs hcs A _ c m hN hm10 hme.symm rfl w hT hA
        · exact sizes_none n k f ⟨by simpa using f1, by simpa using f2⟩ A _ c hN w hT
    · have hp' : ∀ m, m ≤ 10 → 2 ^ m ≠ cs.length := fun m hm he => hp ⟨m, hm, he⟩
      by_cases f1 : f = 1
      · subst f1
        by_cases hk : k < 0 ∨ 10 < k
        · exact sizes_bb_one n k hk A _ c hN hp' w hT
        · obtain ⟨k, rfl⟩ := Int.eq_ofNat_of_zero_le (by omega : 0 ≤ k)
          exact sizes_ob_one n k (by omega) A _ c hN hp' w hT
      · by_cases f2 : f = 2
        · subst f2
          by_cases hk : k < 0 ∨ 10 < k
          · exact sizes_bb_two n k hk A _ c hN hp' w hT
          · obtain ⟨k, rfl⟩ := Int.eq_ofNat_of_zero_le (by omega : 0 ≤ k)
            exact sizes_ob_two n k (by omega) A _ c hN hp' w hT
        · exact sizes_none n k f ⟨by simpa using f1, by simpa using f2⟩ A _ c hN w hT
  · exact sizes_long n k f A _ c (by omega) hm w hT

theorem doorMet_nttSizes (os : Os) (args : Array Value) : laidMetH Tryd.prog Rows.nttSizesRow.laid ((World.doorLaid Tryd.prog 4000 os).forCall (fun _ _ => 0) ⟨#[], args, []⟩).memory :=
  laidMetH_of_parts3 (fuel := 200) (laidMet_of_run' 200 (by kernel_rfl) (by kernel_rfl)) (by kernel_rfl) (by kernel_rfl)
set_option maxRecDepth 100000 in
theorem lifted_nttSizes (os : Os) (started : os.Started) (H : Type) (enc : TypeId × Value → H) :
    ReturnsInHanded {} Tryd.checked os 5 .any (fun w args => (Rows.nttSizesSpec.pre enc Tryd.prog Tryd.f5 [] false w args ∧ laidMetH Tryd.prog Rows.nttSizesRow.laid w) ∧ sizedMet enc Tryd.prog Tryd.f5 (OpenSpec.ofChange Rows.nttSizesSpec) false w args)
      (Rows.nttSizesSpec.post enc Tryd.prog Tryd.f5 false true false false) := by
  refine returnsInHanded_of_change_and (C := Tryd.checked) (X := fun w _ => laidMetH Tryd.prog Rows.nttSizesRow.laid w) (fun _ _ _ hh h => h.of_heap hh) card_own started (by kernel_rfl) Tryd.func5
    (ChangeSpec.witness_shaped (enc := enc) (C := Tryd.checked) (os := os) (X := fun w _ => laidMetH Tryd.prog Rows.nttSizesRow.laid w) false (World.doorLaid Tryd.prog 4000 os) #[.int .i64 0, .int .i64 0, .int .u8 0, .slice none 0 0] 8 rfl (World.shaped_of_RefB (by kernel_rfl) (by kernel_rfl)) (by kernel_rfl) (by kernel_rfl) (by kernel_rfl) (doorMet_nttSizes os _)) ?_
  intro W base args ds gs before hval0 hW _ _ hL _
  have hval : ∀ (j : Nat) t v, Tryd.f5.params[j]? = some t → args[j]? = some v → Value.okWide Tryd.prog W .any base t v := hval0
  have hW' := hW
  obtain ⟨p, q, hA0, hV, rfl, hfz, hnd⟩ := hW
  have hA : DataW.TrodAll enc Tryd.prog W 0 (fun _ => true) true Tryd.f5.params.toList args.toList ds p := hA0
  rw [Tryd.params5] at hA hval
  clear hA0 hval0
  obtain ⟨v0, vs0, d0, ds0, p0, q0, hargs, rfl, rfl, h0, r0⟩ := trodAll_cons hA
  obtain ⟨v1, vs1, d1, ds1, p1, q1, rfl, rfl, rfl, h1, r1⟩ := trodAll_cons r0
  obtain ⟨v2, vs2, d2, ds2, p2, q2, rfl, rfl, rfl, h2, r2⟩ := trodAll_cons r1
  obtain ⟨v3, vs3, d3, ds3, p3, q3, rfl, rfl, rfl, h3, r3⟩ := trodAll_cons r2
  obtain ⟨rfl, rfl, rfl⟩ := trodAll_nil r3
  obtain rfl : args = #[v0, v1, v2, v3] := by cases args; simp_all
  obtain ⟨rfl, rfl⟩ := trodVars_none hV
  obtain ⟨a0, rfl, _, _, w0⟩ := open_int Tryd.underlying3 (hval 0 3 v0 rfl rfl) h0
  obtain ⟨a1, rfl, _, _, w1⟩ := open_int Tryd.underlying3 (hval 1 3 v1 rfl rfl) h1
  obtain ⟨a2, rfl, _, _, w2⟩ := open_int Tryd.underlying5 (hval 2 5 v2 rfl rfl) h2
  obtain ⟨A2, x2, c2, rfl, l2, m2, e2, o2⟩ := open_elems (hval 3 22 v3 rfl rfl) h3
  refine (nttSizes_walk a0 a1 a2 A2 x2 c2 (Nat.le_trans l2 m2) o2 W (tabs_of hL) e2).mono fun e W' ⟨he, hb⟩ => ?_
  subst he
  exact ⟨_, rfl, law_true (by decide +kernel) rfl rfl Tryd.underlying4 hW' rfl hb⟩
theorem over_nttSizes : Rows.nttSizesRow.holds Tryd.pinned (OpenSpec.ofChange Rows.nttSizesSpec) :=
  OpenClaim.holds_of_wide 5 Tryd.f5 rfl rfl rfl rfl rfl rfl rfl ⟨rfl, rfl, rfl, rfl, rfl⟩ rfl rfl rfl rfl rfl (by kernel_rfl) Tryd.func5 (by kernel_rfl)
    (of_decide_eq_true (by kernel_rfl)) (by unfold Func.isWrapper; first | (rw [if_pos (by decide +kernel)]; kernel_rfl) | (rw [if_neg (by decide +kernel)]; exact ⟨rfl, rfl⟩))
    (fun os started H enc _ => lifted_nttSizes os started H enc)
theorem card_nttSizes : Claim7.holds Tryd.pinned (.plain (OpenSpec.ofChange Rows.nttSizesSpec)) Rows.nttSizesCard :=
  Claim7.holds_tied_plain_at .later [] Rows.nttSizesCard.laidKinds true Rows.nttSizesCard.stood.harness false
    over_nttSizes (fun _ h => by cases h) (by kernel_rfl) (fun _ h => by cases h) nttSizes_row_tie rfl ⟨rfl, rfl⟩ (by kernel_rfl) rfl
    (fun f fn hf hfn => by
      obtain rfl : f = 5 := Option.some.inj ((show Tryd.prog.funcNamed Rows.nttSizesRow.func = some 5 by kernel_rfl).symm.trans hf) |>.symm
      obtain rfl : fn = Tryd.f5 := (Option.some.inj (Tryd.func5.symm.trans hfn)).symm
      exact ⟨by kernel_rfl, fun j t ht => by
        rw [Tryd.params5] at ht
        have hm : t ∈ [3, 3, 5, 22] := by simpa using Array.mem_of_getElem? ht
        have hall : ([3, 3, 5, 22].all fun u => !Tryd.prog.wantsStandIn u) = true := by kernel_rfl
        exact (show Tryd.prog.wantsStandIn t = false by simpa using List.all_eq_true.1 hall t hm)⟩)
    (by kernel_rfl)
theorem nttSizes_proved : Rows.NttSizesCardSaid := card_nttSizes
#print axioms nttSizes_proved
end Go.Proofs.YtnlnbikiocdpdaaDoor
