/-
  TotalUnshards: measures of any number up to twelve, each cut in two by any shares, come to their numbers' sums; of more reports, or of others, it is an error; for any small task, any lists of numbers, any reports, any id, where the two listed tables (keccak.turns, keccak.constants) read as the program lays them.
-/
import Derived.Test.YtpojhomccmfffaaDoorTuD
import Derived.Test.YtpojhomccmfffaaDoorTtP
import Derived.Test.YtpojhomccmfffaaDoorBX
namespace Go.Proofs.YtpojhomccmfffaaDoor
open Go.ChangeShapes Go.WideShapes Go.ChangeAt Go.WideElems Go.RowKit
set_option linter.unusedVariables false

theorem doorMet_totalUnshards (os : Os) (args : Array Value) : laidMetH Tryd.prog Rows.totalUnshardsRow.laid ((World.doorLaid Tryd.prog 4000 os).forCall (fun _ _ => 0) ⟨#[], args, []⟩).memory :=
  laidMetH_of_parts3 (fuel := 200) (laidMet_of_run' 200 (by kernel_rfl) (by kernel_rfl)) (by kernel_rfl) (by kernel_rfl)
set_option maxRecDepth 100000 in
theorem lifted_totalUnshards (os : Os) (started : os.Started) (H : Type) (enc : TypeId × Value → H) :
    ReturnsInHanded {} Tryd.checked os 4 .any (fun w args => (Rows.totalUnshardsSpec.pre enc Tryd.prog Tryd.f4 [] false w args ∧ laidMetH Tryd.prog Rows.totalUnshardsRow.laid w) ∧ sizedMet enc Tryd.prog Tryd.f4 (OpenSpec.ofChange Rows.totalUnshardsSpec) false w args)
      (Rows.totalUnshardsSpec.post enc Tryd.prog Tryd.f4 false true false false) := by
  refine returnsInHanded_of_change_and (C := Tryd.checked) (X := fun w _ => laidMetH Tryd.prog Rows.totalUnshardsRow.laid w) (fun _ _ _ hh h => h.of_heap hh) card_own started (by kernel_rfl) Tryd.func4
    (ChangeSpec.witness_shaped (enc := enc) (C := Tryd.checked) (os := os) (X := fun w _ => laidMetH Tryd.prog Rows.totalUnshardsRow.laid w) false (World.doorLaid Tryd.prog 4000 os) #[.agg #[.int .u8 0, .int .u8 0, .int .u8 0, .int .u8 0, .int .u8 0, .int .u8 0, .int .u8 0, .int .u8 0], .slice none 0 0, .slice none 0 0, .agg #[.int .u8 0, .int .u8 0, .int .u8 0, .int .u8 0, .int .u8 0, .int .u8 0, .int .u8 0, .int .u8 0, .int .u8 0, .int .u8 0, .int .u8 0, .int .u8 0, .int .u8 0, .int .u8 0, .int .u8 0, .int .u8 0]] 8 rfl (World.shaped_of_RefB (by kernel_rfl) (by kernel_rfl)) (by kernel_rfl) (by kernel_rfl) (by kernel_rfl) (doorMet_totalUnshards os _)) ?_
  intro W base args ds gs before hval0 hW _ _ hL _
  have hval : ∀ (j : Nat) t v, Tryd.f4.params[j]? = some t → args[j]? = some v → Value.okWide Tryd.prog W .any base t v := hval0
  have hW' := hW
  obtain ⟨p, q, hA0, hV, rfl, hfz, hnd⟩ := hW
  have hA : DataW.TrodAll enc Tryd.prog W 0 (fun _ => true) true Tryd.f4.params.toList args.toList ds p := hA0
  rw [Tryd.params4] at hA hval
  clear hA0 hval0
  obtain ⟨v0, vs0, d0, ds0, p0, q0, hargs, rfl, rfl, h0, r0⟩ := trodAll_cons hA
  obtain ⟨v1, vs1, d1, ds1, p1, q1, rfl, rfl, rfl, h1, r1⟩ := trodAll_cons r0
  obtain ⟨v2, vs2, d2, ds2, p2, q2, rfl, rfl, rfl, h2, r2⟩ := trodAll_cons r1
  obtain ⟨v3, vs3, d3, ds3, p3, q3, rfl, rfl, rfl, h3, r3⟩ := trodAll_cons r2
  obtain ⟨rfl, rfl, rfl⟩ := trodAll_nil r3
  obtain rfl : args = #[v0, v1, v2, v3] := by cases args; simp_all
  obtain ⟨rfl, rfl⟩ := trodVars_none hV
  obtain ⟨K, F', B, L, W', C, P, T, rfl, b⟩ := open_s13 (hval 0 25 v0 rfl rfl) h0
  obtain ⟨Am, nm, cm, ms, rfl, hnm, hM, hMo⟩ := open_wlists (hval 1 50 v1 rfl rfl) h1
  obtain ⟨A, n, cA, rs, ys, rfl, hn, hc, hnil, hR, hP⟩ := open_reps (hval 2 26 v2 rfl rfl) h2
  obtain ⟨zs, hzl, rfl, _, _, hwf⟩ := open_int_array Tryd.underlying51 Tryd.underlying5 (by kernel_rfl) (by kernel_rfl) (hval 3 51 v3 rfl rfl) h3
  obtain ⟨os, hz, hos⟩ := idc_ofR hzl hwf
  have hw := unshards_walk _ _ _ (task_good K F' B L W' C P T b.p.1) K F' B L W' C P T Am nm cm ms A n cA (Nat.le_trans hn hc) hnm rs ys os hos W (tabs_of hL) hR hP hM hMo (fun w => task_any K F' B L W' C P T b.k.1 b.k.2 b.f.1 b.f.2 b.b.1 b.b.2 b.l.1 b.l.2 b.w.1 b.w.2 b.c.1 b.c.2 b.p.1 b.p.2 b.t.1 b.t.2 w)
  rw [← hz] at hw
  refine hw.mono fun e W' ⟨he, hb⟩ => ?_
  subst he
  exact ⟨_, rfl, law_true (by decide +kernel) rfl rfl Tryd.underlying4 hW' rfl hb⟩
theorem over_totalUnshards : Rows.totalUnshardsRow.holds Tryd.pinned (OpenSpec.ofChange Rows.totalUnshardsSpec) :=
  OpenClaim.holds_of_wide 4 Tryd.f4 rfl rfl rfl rfl rfl rfl rfl ⟨rfl, rfl, rfl, rfl, rfl⟩ rfl rfl rfl rfl rfl (by kernel_rfl) Tryd.func4 (by kernel_rfl)
    (of_decide_eq_true (by kernel_rfl)) (by unfold Func.isWrapper; first | (rw [if_pos (by decide +kernel)]; kernel_rfl) | (rw [if_neg (by decide +kernel)]; exact ⟨rfl, rfl⟩))
    (fun os started H enc _ => lifted_totalUnshards os started H enc)
theorem card_totalUnshards : Claim7.holds Tryd.pinned (.plain (OpenSpec.ofChange Rows.totalUnshardsSpec)) Rows.totalUnshardsCard :=
  Claim7.holds_tied_plain_at .later [] Rows.totalUnshardsCard.laidKinds true Rows.totalUnshardsCard.stood.harness Rows.totalUnshardsCard.stood.looks
    over_totalUnshards (fun _ h => by cases h) (by kernel_rfl) (fun _ h => by cases h) totalUnshards_row_tie rfl ⟨rfl, rfl⟩ (by kernel_rfl) rfl
    (fun f fn hf hfn => by
      obtain rfl : f = 4 := Option.some.inj ((show Tryd.prog.funcNamed Rows.totalUnshardsRow.func = some 4 by kernel_rfl).symm.trans hf) |>.symm
      obtain rfl : fn = Tryd.f4 := (Option.some.inj (Tryd.func4.symm.trans hfn)).symm
      exact ⟨by kernel_rfl, fun j t ht => by
        rw [Tryd.params4] at ht
        have hm : t ∈ [25, 50, 26, 51] := by simpa using Array.mem_of_getElem? ht
        have hall : ([25, 50, 26, 51].all fun u => !Tryd.prog.wantsStandIn u) = true := by kernel_rfl
        exact (show Tryd.prog.wantsStandIn t = false by simpa using List.all_eq_true.1 hall t hm)⟩)
    (by kernel_rfl)
theorem totalUnshards_proved : Rows.TotalUnshardsCardSaid := card_totalUnshards
#print axioms totalUnshards_proved
end Go.Proofs.YtpojhomccmfffaaDoor
