/-
  PolyLong, proved: polynomials of up to 600 coefficients of any numbers: a product's value is the values' product; too long a one is an error; for any byte as the field's number; where the listed tables read as the program lays them.
-/
import Derived.Test.YtbpedpkhhjfhjaaDoorPoM
import Derived.Test.YtbpedpkhhjfhjaaDoorBX
import Derived.Test.YtbpedpkhhjfhjaaDoorElems
import Derived.Test.YtbpedpkhhjfhjaaDoorBB
import Derived.Test.YtbpedpkhhjfhjaaDoorFrame
namespace Go.Proofs.YtbpedpkhhjfhjaaDoor
open Go.ChangeShapes Go.WideShapes Go.ChangeAt Go.WideElems Go.RowKit F Flow
set_option linter.unusedVariables false

theorem wf_u8 {a : Int} (h : (Lit.int .u8 a).wf = true) : 0 ≤ a ∧ a ≤ 255 := by simpa [Lit.wf, IntKind.min, IntKind.max, IntKind.signed, IntKind.bits] using h
theorem wf_u16 {a : Int} (h : (Lit.int .u16 a).wf = true) : 0 ≤ a ∧ a ≤ 65535 := by simpa [Lit.wf, IntKind.min, IntKind.max, IntKind.signed, IntKind.bits] using h
theorem polyLong_walk (n i k x : Int) (wn : (Lit.int .u8 n).wf = true) (wi : (Lit.int .u16 i).wf = true) (wk : (Lit.int .u16 k).wf = true) (x0 : 0 ≤ x) (x1 : x < 340282366920938463463374607431768211456) (A : Option Addr) (ls : List Int) (c : Nat) (hm : ls.length ≤ maxLen) (hls : ElemsOK ls) (w : World) (hT : Tabs w) (hA : ElemsAt w A ls) :
    Calls Tryd.prog 4 #[.int .u8 n, .slice A ls.length c, .int .u16 i, .int .u16 k, .agg #[.int .u64 (lo x), .int .u64 (hi x)]] w fun e w' => e = .returned (.bool true) ∧ Below w.heap.size w w' := by
  have hn := wf_u8 wn
  have hi' := wf_u16 wi
  have hk := wf_u16 wk
  rcases Int.emod_two_eq n with h | h
  · exact polyLong_f n 1 x i k (F_even n h hn.1 hn.2) ft_one root_one (by omega) x0 x1 hi'.1 hi'.2 hk.1 hk.2 A ls _ c rfl hm hls w hT hA
  · exact polyLong_f n 2 x i k (F_odd n h hn.1 hn.2) ft_two root_two (by omega) x0 x1 hi'.1 hi'.2 hk.1 hk.2 A ls _ c rfl hm hls w hT hA

theorem doorMet_polyLong (os : Os) (args : Array Value) : laidMetH Tryd.prog Rows.polyLongRow.laid ((World.doorLaid Tryd.prog 4000 os).forCall (fun _ _ => 0) ⟨#[], args, []⟩).memory :=
  laidMetH_of_parts3 (fuel := 200) (laidMet_of_run' 200 (by kernel_rfl) (by kernel_rfl)) (by kernel_rfl) (by kernel_rfl)
set_option maxRecDepth 100000 in
theorem lifted_polyLong (os : Os) (started : os.Started) (H : Type) (enc : TypeId × Value → H) :
    ReturnsInHanded {} Tryd.checked os 4 .any (fun w args => (Rows.polyLongSpec.pre enc Tryd.prog Tryd.f4 [] false w args ∧ laidMetH Tryd.prog Rows.polyLongRow.laid w) ∧ sizedMet enc Tryd.prog Tryd.f4 (OpenSpec.ofChange Rows.polyLongSpec) false w args)
      (Rows.polyLongSpec.post enc Tryd.prog Tryd.f4 false true false false) := by
  refine returnsInHanded_of_change_and (C := Tryd.checked) (X := fun w _ => laidMetH Tryd.prog Rows.polyLongRow.laid w) (fun _ _ _ hh h => h.of_heap hh) card_own started (by kernel_rfl) Tryd.func4
    (ChangeSpec.witness_shaped (enc := enc) (C := Tryd.checked) (os := os) (X := fun w _ => laidMetH Tryd.prog Rows.polyLongRow.laid w) false (World.doorLaid Tryd.prog 4000 os) #[.int .u8 0, .slice none 0 0, .int .u16 0, .int .u16 0, .agg #[.int .u64 0, .int .u64 0]] 8 rfl (World.shaped_of_RefB (by kernel_rfl) (by kernel_rfl)) (by kernel_rfl) (by kernel_rfl) (by kernel_rfl) (doorMet_polyLong os _)) ?_
  intro W base args ds gs before hval0 hW _ _ hL _
  have hval : ∀ (j : Nat) t v, Tryd.f4.params[j]? = some t → args[j]? = some v → Value.okWide Tryd.prog W .any base t v := hval0
  have hW' := hW
  obtain ⟨p, q, hA0, hV, rfl, hfz, hnd⟩ := hW
  have hA : DataW.TrodAll enc Tryd.prog W 0 (fun _ => true) true Tryd.f4.params.toList args.toList ds p := hA0
  rw [Tryd.params4] at hA hval
  clear hA0 hval0
  obtain ⟨v0, vs0, d0, ds0, p0, q0, hargs, rfl, rfl, h0, r0⟩ := trodAll_cons hA
  obtain ⟨v1, vs1, d1, ds1, p1, q1, rfl, rfl, rfl, h1, r1⟩ := trodAll_cons r0
  obtain ⟨v2, vs2, d2, ds2, p2, q2, rfl, rfl, rfl, h2, r2⟩ := trodAll_cons r1
  obtain ⟨v3, vs3, d3, ds3, p3, q3, rfl, rfl, rfl, h3, r3⟩ := trodAll_cons r2
  obtain ⟨v4, vs4, d4, ds4, p4, q4, rfl, rfl, rfl, h4, r4⟩ := trodAll_cons r3
  obtain ⟨rfl, rfl, rfl⟩ := trodAll_nil r4
  obtain rfl : args = #[v0, v1, v2, v3, v4] := by cases args; simp_all
  obtain ⟨rfl, rfl⟩ := trodVars_none hV
  obtain ⟨a0, rfl, _, _, w0⟩ := open_int Tryd.underlying5 (hval 0 5 v0 rfl rfl) h0
  obtain ⟨A1, x1, c1, rfl, l1, m1, e1, o1⟩ := open_elems (hval 1 22 v1 rfl rfl) h1
  obtain ⟨a2, rfl, _, _, w2⟩ := open_int Tryd.underlying44 (hval 2 44 v2 rfl rfl) h2
  obtain ⟨a3, rfl, _, _, w3⟩ := open_int Tryd.underlying44 (hval 3 44 v3 rfl rfl) h3
  obtain ⟨a4, w4, u4, rfl, _, _⟩ := open_elem (hval 4 25 v4 rfl rfl) h4
  refine (polyLong_walk a0 a2 a3 a4 w0 w2 w3 w4 u4 A1 x1 c1 (Nat.le_trans l1 m1) o1 W (tabs_of hL) e1).mono fun e W' ⟨he, hb⟩ => ?_
  subst he
  exact ⟨_, rfl, law_true (by decide +kernel) rfl rfl Tryd.underlying4 hW' rfl hb⟩
theorem over_polyLong : Rows.polyLongRow.holds Tryd.pinned (OpenSpec.ofChange Rows.polyLongSpec) :=
  OpenClaim.holds_of_wide 4 Tryd.f4 rfl rfl rfl rfl rfl rfl rfl ⟨rfl, rfl, rfl, rfl, rfl⟩ rfl rfl rfl rfl rfl (by kernel_rfl) Tryd.func4 (by kernel_rfl)
    (of_decide_eq_true (by kernel_rfl)) (by unfold Func.isWrapper; first | (rw [if_pos (by decide +kernel)]; kernel_rfl) | (rw [if_neg (by decide +kernel)]; exact ⟨rfl, rfl⟩))
    (fun os started H enc _ => lifted_polyLong os started H enc)
theorem card_polyLong : Claim7.holds Tryd.pinned (.plain (OpenSpec.ofChange Rows.polyLongSpec)) Rows.polyLongCard :=
  Claim7.holds_tied_plain_at .later [] Rows.polyLongCard.laidKinds true Rows.polyLongCard.stood.harness false
    over_polyLong (fun _ h => by cases h) (by kernel_rfl) (fun _ h => by cases h) polyLong_row_tie rfl ⟨rfl, rfl⟩ (by kernel_rfl) rfl
    (fun f fn hf hfn => by
      obtain rfl : f = 4 := Option.some.inj ((show Tryd.prog.funcNamed Rows.polyLongRow.func = some 4 by kernel_rfl).symm.trans hf) |>.symm
      obtain rfl : fn = Tryd.f4 := (Option.some.inj (Tryd.func4.symm.trans hfn)).symm
      exact ⟨by kernel_rfl, fun j t ht => by
        rw [Tryd.params4] at ht
        have hm : t ∈ [5, 22, 44, 44, 25] := by simpa using Array.mem_of_getElem? ht
        have hall : ([5, 22, 44, 44, 25].all fun u => !Tryd.prog.wantsStandIn u) = true := by kernel_rfl
        exact (show Tryd.prog.wantsStandIn t = false by simpa using List.all_eq_true.1 hall t hm)⟩)
    (by kernel_rfl)
theorem polyLong_proved : Rows.PolyLongCardSaid := card_polyLong
#print axioms polyLong_proved
end Go.Proofs.YtbpedpkhhjfhjaaDoor
