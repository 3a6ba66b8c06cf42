/-
  GadgetPolys, proved: any gadget of small numbers of any polynomials: its value anywhere is that of their values, no longer than the degrees say; too few are refused; for any byte as the field's number; where the listed tables read as the program lays them.
-/
import Derived.Test.YtailpfbdanhpmaaDoorGqE
import Derived.Test.YtailpfbdanhpmaaDoorBX
import Derived.Test.YtailpfbdanhpmaaDoorElemsOf
import Derived.Test.YtailpfbdanhpmaaDoorElems
import Derived.Test.YtailpfbdanhpmaaDoorBB
import Derived.Test.YtailpfbdanhpmaaDoorFrame
namespace Go.Proofs.YtailpfbdanhpmaaDoor
open Go.ChangeShapes Go.WideShapes Go.ChangeAt Go.WideElems Go.RowKit F Flow
set_option linter.unusedVariables false

theorem wf_g8 {a : Int} (h : (Lit.int .u8 a).wf = true) : 0 ≤ a ∧ a ≤ 255 := by simpa [Lit.wf, IntKind.min, IntKind.max, IntKind.signed, IntKind.bits] using h
theorem gadgetPolys_walk (n kd mn x : Int) (wn : (Lit.int .u8 n).wf = true) (wk : (Lit.int .u8 kd).wf = true) (wm : (Lit.int .u8 mn).wf = true)
    (A B Z : Option Addr) (cs ls zs : List Int) (cc cl cz : Nat) (hmc : cs.length ≤ maxLen) (hml : ls.length ≤ maxLen) (hmz : zs.length ≤ maxLen) (hcs : ElemsOK cs) (hls : ElemsOK ls) (hzs : BytesOK zs) (x0 : 0 ≤ x) (x1 : x < 340282366920938463463374607431768211456) (w : World) (hT : Tabs w) (hA : ElemsAt w A cs) (hB : ElemsAt w B ls) (hZ : BytesAt w Z zs) :
    Calls Tryd.prog 3 #[.int .u8 n, svl kd A cs.length cc mn, .slice B ls.length cl, .slice Z zs.length cz, .agg #[.int .u64 (lo x), .int .u64 (hi x)]] w fun e w' => e = .returned (.bool true) ∧ Below w.heap.size w w' := by
  have hn := wf_g8 wn
  have hk := wf_g8 wk
  have hm := wf_g8 wm
  rcases Int.emod_two_eq n with h | h
  · exact gadgetPolys_f n 1 kd mn x (F_even n h hn.1 hn.2) ft_one root_one finBy1 (by omega) A cs _ cc rfl hmc hcs hk.1 hm.1 hm.2 B ls _ cl rfl hml hls Z zs _ cz rfl hmz hzs x0 x1 w hT hA hB hZ
  · exact gadgetPolys_f n 2 kd mn x (F_odd n h hn.1 hn.2) ft_two root_two finBy2 (by omega) A cs _ cc rfl hmc hcs hk.1 hm.1 hm.2 B ls _ cl rfl hml hls Z zs _ cz rfl hmz hzs x0 x1 w hT hA hB hZ
set_option maxRecDepth 100000 in
theorem open_small {H : Type} {enc : TypeId × Value → H} {w : World} {base : Nat} {spare : Nat → Bool} {held : Bool} {r : Reach} {b0 : Nat} {v : Value} {d : DataW H} {p : List MemPlace}
    (hv : Value.okWide Tryd.prog w r b0 24 v) (h : DataW.Trod enc Tryd.prog w base spare held 24 v d p) : ∃ (k m : Int) (A : Option Addr) (xs : List Int) (c : Nat), v = svl k A xs.length c m ∧ (Lit.int .u8 k).wf = true ∧ (Lit.int .u8 m).wf = true ∧ xs.length ≤ maxLen ∧ ElemsAt w A xs ∧ ElemsOK xs := by
  obtain ⟨cs, rfl⟩ := okWide_struct Tryd.underlying24 hv
  obtain ⟨fuel, hf⟩ := h
  obtain ⟨ys, n, _, _, hl, hyl, hf⟩ := DataW.trod_struct Tryd.underlying24 hf
  rw [show (Tryd.prog).cellsOf 24 = 3 by kernel_rfl] at hl
  have hcs : (Value.agg cs.toArray).cells.toList = cs := rfl
  try simp only [hcs] at hl hf
  have hyl : ys.length = 3 := hyl
  have g0 : DataW.trod enc Tryd.prog w base spare held n 5 ((cs.drop 0).take ((Tryd.prog).cellsOf 5)) = ys[0]? := hf 0 _ rfl
  have g1 : DataW.trod enc Tryd.prog w base spare held n 22 ((cs.drop 1).take ((Tryd.prog).cellsOf 22)) = ys[1]? := hf 1 _ rfl
  have g2 : DataW.trod enc Tryd.prog w base spare held n 5 ((cs.drop 2).take ((Tryd.prog).cellsOf 5)) = ys[2]? := hf 2 _ rfl
  obtain ⟨c0, c1, c2, rfl⟩ : ∃ c0 c1 c2, cs = [c0, c1, c2] := by
    match cs, hl with
    | [c0, c1, c2], _ => exact ⟨c0, c1, c2, rfl⟩
  rw [show (Tryd.prog).cellsOf 5 = 1 by kernel_rfl, List.getElem?_eq_getElem (by omega)] at g0 g2
  rw [show (Tryd.prog).cellsOf 22 = 1 by kernel_rfl, List.getElem?_eq_getElem (by omega)] at g1
  obtain ⟨k, e0, _, w0⟩ := DataW.trod_int Tryd.underlying5 g0
  obtain ⟨A, xs, c, e1, l1, m1, o1, k1⟩ := elems_of g1
  obtain ⟨m, e2, _, w2⟩ := DataW.trod_int Tryd.underlying5 g2
  simp at e0 e1 e2
  subst e0 e1 e2
  exact ⟨k, m, A, xs, c, rfl, w0, w2, Nat.le_trans l1 m1, o1, k1⟩

theorem doorMet_gadgetPolys (os : Os) (args : Array Value) : laidMetH Tryd.prog Rows.gadgetPolysRow.laid ((World.doorLaid Tryd.prog 4000 os).forCall (fun _ _ => 0) ⟨#[], args, []⟩).memory :=
  laidMetH_of_parts3 (fuel := 200) (laidMet_of_run' 200 (by kernel_rfl) (by kernel_rfl)) (by kernel_rfl) (by kernel_rfl)
set_option maxRecDepth 100000 in
theorem lifted_gadgetPolys (os : Os) (started : os.Started) (H : Type) (enc : TypeId × Value → H) :
    ReturnsInHanded {} Tryd.checked os 3 .any (fun w args => (Rows.gadgetPolysSpec.pre enc Tryd.prog Tryd.f3 [] false w args ∧ laidMetH Tryd.prog Rows.gadgetPolysRow.laid w) ∧ sizedMet enc Tryd.prog Tryd.f3 (OpenSpec.ofChange Rows.gadgetPolysSpec) false w args)
      (Rows.gadgetPolysSpec.post enc Tryd.prog Tryd.f3 false true false false) := by
  refine returnsInHanded_of_change_and (C := Tryd.checked) (X := fun w _ => laidMetH Tryd.prog Rows.gadgetPolysRow.laid w) (fun _ _ _ hh h => h.of_heap hh) card_own started (by kernel_rfl) Tryd.func3
    (ChangeSpec.witness_shaped (enc := enc) (C := Tryd.checked) (os := os) (X := fun w _ => laidMetH Tryd.prog Rows.gadgetPolysRow.laid w) false (World.doorLaid Tryd.prog 4000 os) #[.int .u8 0, .agg #[.int .u8 0, .slice none 0 0, .int .u8 0], .slice none 0 0, .slice none 0 0, .agg #[.int .u64 0, .int .u64 0]] 8 rfl (World.shaped_of_RefB (by kernel_rfl) (by kernel_rfl)) (by kernel_rfl) (by kernel_rfl) (by kernel_rfl) (doorMet_gadgetPolys os _)) ?_
  intro W base args ds gs before hval0 hW _ _ hL _
  have hval : ∀ (j : Nat) t v, Tryd.f3.params[j]? = some t → args[j]? = some v → Value.okWide Tryd.prog W .any base t v := hval0
  have hW' := hW
  obtain ⟨p, q, hA0, hV, rfl, hfz, hnd⟩ := hW
  have hA : DataW.TrodAll enc Tryd.prog W 0 (fun _ => true) true Tryd.f3.params.toList args.toList ds p := hA0
  rw [Tryd.params3] at hA hval
  clear hA0 hval0
  obtain ⟨v0, vs0, d0, ds0, p0, q0, hargs, rfl, rfl, h0, r0⟩ := trodAll_cons hA
  obtain ⟨v1, vs1, d1, ds1, p1, q1, rfl, rfl, rfl, h1, r1⟩ := trodAll_cons r0
  obtain ⟨v2, vs2, d2, ds2, p2, q2, rfl, rfl, rfl, h2, r2⟩ := trodAll_cons r1
  obtain ⟨v3, vs3, d3, ds3, p3, q3, rfl, rfl, rfl, h3, r3⟩ := trodAll_cons r2
  obtain ⟨v4, vs4, d4, ds4, p4, q4, rfl, rfl, rfl, h4, r4⟩ := trodAll_cons r3
  obtain ⟨rfl, rfl, rfl⟩ := trodAll_nil r4
  obtain rfl : args = #[v0, v1, v2, v3, v4] := by cases args; simp_all
  obtain ⟨rfl, rfl⟩ := trodVars_none hV
  obtain ⟨a0, rfl, _, _, w0⟩ := open_int Tryd.underlying5 (hval 0 5 v0 rfl rfl) h0
  obtain ⟨k1, m1, A1, x1, c1, rfl, wk1, wm1, l1, o1, k1'⟩ := open_small (hval 1 24 v1 rfl rfl) h1
  obtain ⟨A2, x2, c2, rfl, l2, m2, e2, o2⟩ := open_elems (hval 2 22 v2 rfl rfl) h2
  obtain ⟨A3, x3, c3, rfl, l3, m3, e3, o3⟩ := open_bytes (hval 3 25 v3 rfl rfl) h3
  obtain ⟨a4, w4, u4, rfl, _, _⟩ := open_elem (hval 4 28 v4 rfl rfl) h4
  refine (gadgetPolys_walk a0 k1 m1 a4 w0 wk1 wm1 A1 A2 A3 x1 x2 x3 c1 c2 c3 l1 (Nat.le_trans l2 m2) (Nat.le_trans l3 m3) k1' o2 o3 w4 u4 W (tabs_of hL) o1 e2 e3).mono fun e W' ⟨he, hb⟩ => ?_
  subst he
  exact ⟨_, rfl, law_true (by decide +kernel) rfl rfl Tryd.underlying4 hW' rfl hb⟩
theorem over_gadgetPolys : Rows.gadgetPolysRow.holds Tryd.pinned (OpenSpec.ofChange Rows.gadgetPolysSpec) :=
  OpenClaim.holds_of_wide 3 Tryd.f3 rfl rfl rfl rfl rfl rfl rfl ⟨rfl, rfl, rfl, rfl, rfl⟩ rfl rfl rfl rfl rfl (by kernel_rfl) Tryd.func3 (by kernel_rfl)
    (of_decide_eq_true (by kernel_rfl)) (by unfold Func.isWrapper; first | (rw [if_pos (by decide +kernel)]; kernel_rfl) | (rw [if_neg (by decide +kernel)]; exact ⟨rfl, rfl⟩))
    (fun os started H enc _ => lifted_gadgetPolys os started H enc)
theorem card_gadgetPolys : Claim7.holds Tryd.pinned (.plain (OpenSpec.ofChange Rows.gadgetPolysSpec)) Rows.gadgetPolysCard :=
  Claim7.holds_tied_plain_at .later [] Rows.gadgetPolysCard.laidKinds true Rows.gadgetPolysCard.stood.harness false
    over_gadgetPolys (fun _ h => by cases h) (by kernel_rfl) (fun _ h => by cases h) gadgetPolys_row_tie rfl ⟨rfl, rfl⟩ (by kernel_rfl) rfl
    (fun f fn hf hfn => by
      obtain rfl : f = 3 := Option.some.inj ((show Tryd.prog.funcNamed Rows.gadgetPolysRow.func = some 3 by kernel_rfl).symm.trans hf) |>.symm
      obtain rfl : fn = Tryd.f3 := (Option.some.inj (Tryd.func3.symm.trans hfn)).symm
      exact ⟨by kernel_rfl, fun j t ht => by
        rw [Tryd.params3] at ht
        have hm : t ∈ [5, 24, 22, 25, 28] := by simpa using Array.mem_of_getElem? ht
        have hall : ([5, 24, 22, 25, 28].all fun u => !Tryd.prog.wantsStandIn u) = true := by kernel_rfl
        exact (show Tryd.prog.wantsStandIn t = false by simpa using List.all_eq_true.1 hall t hm)⟩)
    (by kernel_rfl)
theorem gadgetPolys_proved : Rows.GadgetPolysCardSaid := card_gadgetPolys
#print axioms gadgetPolys_proved
end Go.Proofs.YtailpfbdanhpmaaDoor
