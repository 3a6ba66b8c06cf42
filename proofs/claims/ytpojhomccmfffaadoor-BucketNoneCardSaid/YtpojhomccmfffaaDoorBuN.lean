/-
  BucketNone: a book that is none answers errors and nothing; what a book answers is new memory, for any time, any id, any elements, where the two listed tables (keccak.turns, keccak.constants) read as the program lays them.
-/
import Derived.Test.YtpojhomccmfffaaDoorBuM
import Derived.Test.YtpojhomccmfffaaDoorTtO
import Derived.Test.YtpojhomccmfffaaDoorBX
namespace Go.Proofs.YtpojhomccmfffaaDoor
open Go.ChangeShapes Go.WideShapes Go.ChangeAt Go.WideElems Go.RowKit
set_option linter.unusedVariables false

theorem idc_of {zs : List Int} (hl : zs.length = 16) (hw : ∀ z, z ∈ zs → (Lit.int .u8 z).wf = true) : ∃ ns, zs.map (Value.int .u8) = idc ns ∧ IdOK ns := by
  refine ⟨zs.map Int.toNat, ?_, ⟨by simpa using hl, fun x hx => ?_⟩⟩
  · unfold idc
    rw [List.map_map]
    refine List.map_congr_left fun z hz => ?_
    have := byte_wfT (hw z hz)
    show Value.int .u8 z = Value.int .u8 ((z.toNat : Nat) : Int)
    rw [Int.toNat_of_nonneg this.1]
  · obtain ⟨z, hz, rfl⟩ := List.mem_map.1 hx
    have := byte_wfT (hw z hz)
    omega
theorem doorMet_bucketNone (os : Os) (args : Array Value) : laidMetH Tryd.prog Rows.bucketNoneRow.laid ((World.doorLaid Tryd.prog 4000 os).forCall (fun _ _ => 0) ⟨#[], args, []⟩).memory :=
  laidMetH_of_parts3 (fuel := 200) (laidMet_of_run' 200 (by kernel_rfl) (by kernel_rfl)) (by kernel_rfl) (by kernel_rfl)
set_option maxRecDepth 100000 in
theorem lifted_bucketNone (os : Os) (started : os.Started) (H : Type) (enc : TypeId × Value → H) :
    ReturnsInHanded {} Tryd.checked os 9 .any (fun w args => (Rows.bucketNoneSpec.pre enc Tryd.prog Tryd.f9 [] false w args ∧ laidMetH Tryd.prog Rows.bucketNoneRow.laid w) ∧ sizedMet enc Tryd.prog Tryd.f9 (OpenSpec.ofChange Rows.bucketNoneSpec) false w args)
      (Rows.bucketNoneSpec.post enc Tryd.prog Tryd.f9 false true false false) := by
  refine returnsInHanded_of_change_and (C := Tryd.checked) (X := fun w _ => laidMetH Tryd.prog Rows.bucketNoneRow.laid w) (fun _ _ _ hh h => h.of_heap hh) card_own started (by kernel_rfl) Tryd.func9
    (ChangeSpec.witness_shaped (enc := enc) (C := Tryd.checked) (os := os) (X := fun w _ => laidMetH Tryd.prog Rows.bucketNoneRow.laid w) false (World.doorLaid Tryd.prog 4000 os) #[.int .u64 0, .agg #[.int .u8 0, .int .u8 0, .int .u8 0, .int .u8 0, .int .u8 0, .int .u8 0, .int .u8 0, .int .u8 0, .int .u8 0, .int .u8 0, .int .u8 0, .int .u8 0, .int .u8 0, .int .u8 0, .int .u8 0, .int .u8 0], .slice none 0 0] 8 rfl (World.shaped_of_RefB (by kernel_rfl) (by kernel_rfl)) (by kernel_rfl) (by kernel_rfl) (by kernel_rfl) (doorMet_bucketNone os _)) ?_
  intro W base args ds gs before hval0 hW _ _ hL _
  have hval : ∀ (j : Nat) t v, Tryd.f9.params[j]? = some t → args[j]? = some v → Value.okWide Tryd.prog W .any base t v := hval0
  have hW' := hW
  obtain ⟨p, q, hA0, hV, rfl, hfz, hnd⟩ := hW
  have hA : DataW.TrodAll enc Tryd.prog W 0 (fun _ => true) true Tryd.f9.params.toList args.toList ds p := hA0
  rw [Tryd.params9] at hA hval
  clear hA0 hval0
  obtain ⟨v0, vs0, d0, ds0, p0, q0, hargs, rfl, rfl, h0, r0⟩ := trodAll_cons hA
  obtain ⟨v1, vs1, d1, ds1, p1, q1, rfl, rfl, rfl, h1, r1⟩ := trodAll_cons r0
  obtain ⟨v2, vs2, d2, ds2, p2, q2, rfl, rfl, rfl, h2, r2⟩ := trodAll_cons r1
  obtain ⟨rfl, rfl, rfl⟩ := trodAll_nil r2
  obtain rfl : args = #[v0, v1, v2] := by cases args; simp_all
  obtain ⟨rfl, rfl⟩ := trodVars_none hV
  obtain ⟨now, rfl, _, _, wn⟩ := open_int Tryd.underlying63 (hval 0 63 v0 rfl rfl) h0
  obtain ⟨zs, hzl, rfl, _, _, hwf⟩ := open_int_array Tryd.underlying51 Tryd.underlying5 (by kernel_rfl) (by kernel_rfl) (hval 1 51 v1 rfl rfl) h1
  obtain ⟨A2, x2, c2, rfl, l2, m2, e2, o2⟩ := open_elems (hval 2 35 v2 rfl rfl) h2
  have hn := wf_u64T wn
  obtain ⟨ns, hz, hns⟩ := idc_of hzl hwf
  have hw := none_walk now ns hns A2 x2.length c2 (Nat.le_trans l2 m2) hn.1 hn.2 W (tabs_of hL)
  rw [← hz] at hw
  refine hw.mono fun e W' ⟨he, hb⟩ => ?_
  subst he
  exact ⟨_, rfl, law_true (by decide +kernel) rfl rfl Tryd.underlying4 hW' rfl hb⟩
theorem over_bucketNone : Rows.bucketNoneRow.holds Tryd.pinned (OpenSpec.ofChange Rows.bucketNoneSpec) :=
  OpenClaim.holds_of_wide 9 Tryd.f9 rfl rfl rfl rfl rfl rfl rfl ⟨rfl, rfl, rfl, rfl, rfl⟩ rfl rfl rfl rfl rfl (by kernel_rfl) Tryd.func9 (by kernel_rfl)
    (of_decide_eq_true (by kernel_rfl)) (by unfold Func.isWrapper; first | (rw [if_pos (by decide +kernel)]; kernel_rfl) | (rw [if_neg (by decide +kernel)]; exact ⟨rfl, rfl⟩))
    (fun os started H enc _ => lifted_bucketNone os started H enc)
theorem card_bucketNone : Claim7.holds Tryd.pinned (.plain (OpenSpec.ofChange Rows.bucketNoneSpec)) Rows.bucketNoneCard :=
  Claim7.holds_tied_plain_at .later [] Rows.bucketNoneCard.laidKinds true Rows.bucketNoneCard.stood.harness Rows.bucketNoneCard.stood.looks
    over_bucketNone (fun _ h => by cases h) (by kernel_rfl) (fun _ h => by cases h) bucketNone_row_tie rfl ⟨rfl, rfl⟩ (by kernel_rfl) rfl
    (fun f fn hf hfn => by
      obtain rfl : f = 9 := Option.some.inj ((show Tryd.prog.funcNamed Rows.bucketNoneRow.func = some 9 by kernel_rfl).symm.trans hf) |>.symm
      obtain rfl : fn = Tryd.f9 := (Option.some.inj (Tryd.func9.symm.trans hfn)).symm
      exact ⟨by kernel_rfl, fun j t ht => by
        rw [Tryd.params9] at ht
        have hm : t ∈ [63, 51, 35] := by simpa using Array.mem_of_getElem? ht
        have hall : ([63, 51, 35].all fun u => !Tryd.prog.wantsStandIn u) = true := by kernel_rfl
        exact (show Tryd.prog.wantsStandIn t = false by simpa using List.all_eq_true.1 hall t hm)⟩)
    (by kernel_rfl)
theorem bucketNone_proved : Rows.BucketNoneCardSaid := card_bucketNone
#print axioms bucketNone_proved
end Go.Proofs.YtpojhomccmfffaaDoor
