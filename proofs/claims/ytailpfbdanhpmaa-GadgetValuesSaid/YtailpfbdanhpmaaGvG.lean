/-
  GadgetValues, proved: any gadget of any small numbers over any numbers: its value, its degree, its arity, and what it says of too many or too few; for any byte as the field's number, any kind, any coefficients and any list, with no condition.
-/
import Derived.Test.YtailpfbdanhpmaaGvF
import Derived.Test.YtailpfbdanhpmaaElemsOf
import Derived.Test.YtailpfbdanhpmaaFrame
import Derived.Test.YtailpfbdanhpmaaPost
import Derived.Test.YtailpfbdanhpmaaArr
namespace Go.Proofs.Ytailpfbdanhpmaa
open Go.RowKit Go.WideShapes Go.ChangeShapes F Flow
set_option linter.unusedVariables false

theorem byte_wf {a : Int} (h : (Lit.int .u8 a).wf = true) : 0 ≤ a ∧ a ≤ 255 := by simpa [Lit.wf, IntKind.min, IntKind.max, IntKind.signed, IntKind.bits] using h
theorem gadgetValues_walk (n kd mn more : Int) (wn : (Lit.int .u8 n).wf = true) (wk : (Lit.int .u8 kd).wf = true) (wm : (Lit.int .u8 mn).wf = true) (wr : (Lit.int .u8 more).wf = true)
    (A B : Option Addr) (cs ls : List Int) (cc cl : Nat) (hmc : cs.length ≤ maxLen) (hml : ls.length ≤ maxLen) (hcs : ElemsOK cs) (hls : ElemsOK ls) (w : World) (hA : ElemsAt w A cs) (hB : ElemsAt w B ls) :
    Calls Try.prog 3 #[.int .u8 n, svl kd A cs.length cc mn, .slice B ls.length cl, .int .u8 more] w fun e w' => e = .returned (.bool true) ∧ Below w.heap.size w w' := by
  have hn := byte_wf wn
  have hk := byte_wf wk
  have hm := byte_wf wm
  have hr := byte_wf wr
  rcases Int.emod_two_eq n with h | h
  · exact gvals n 1 kd mn more (F_even n h hn.1 hn.2) fo_one (by omega) A cs _ cc rfl hmc hcs hk.1 hm.1 hm.2 hr.1 hr.2 B ls _ cl rfl hml hls w hA hB
  · exact gvals n 2 kd mn more (F_odd n h hn.1 hn.2) fo_two (by omega) A cs _ cc rfl hmc hcs hk.1 hm.1 hm.2 hr.1 hr.2 B ls _ cl rfl hml hls w hA hB
theorem open_small {H : Type} {enc : TypeId × Value → H} {w : World} {base : Nat} {spare : Nat → Bool} {held : Bool} {r : Reach} {b0 : Nat} {v : Value} {d : DataW H} {p : List MemPlace}
    (hv : Value.okWide Try.prog w r b0 24 v) (h : DataW.Trod enc Try.prog w base spare held 24 v d p) : ∃ (k m : Int) (A : Option Addr) (xs : List Int) (c : Nat), v = svl k A xs.length c m ∧ (Lit.int .u8 k).wf = true ∧ (Lit.int .u8 m).wf = true ∧ xs.length ≤ maxLen ∧ ElemsAt w A xs ∧ ElemsOK xs := by
  obtain ⟨cs, rfl⟩ := okWide_struct Try.underlying24 hv
  obtain ⟨fuel, hf⟩ := h
  obtain ⟨ys, n, _, _, hl, hyl, hf⟩ := DataW.trod_struct Try.underlying24 hf
  rw [show (Try.prog).cellsOf 24 = 3 by kernel_rfl] at hl
  have hcs : (Value.agg cs.toArray).cells.toList = cs := rfl
  try simp only [hcs] at hl hf
  have hyl : ys.length = 3 := hyl
  have g0 : DataW.trod enc Try.prog w base spare held n 5 ((cs.drop 0).take ((Try.prog).cellsOf 5)) = ys[0]? := hf 0 _ rfl
  have g1 : DataW.trod enc Try.prog w base spare held n 22 ((cs.drop 1).take ((Try.prog).cellsOf 22)) = ys[1]? := hf 1 _ rfl
  have g2 : DataW.trod enc Try.prog w base spare held n 5 ((cs.drop 2).take ((Try.prog).cellsOf 5)) = ys[2]? := hf 2 _ rfl
  obtain ⟨c0, c1, c2, rfl⟩ : ∃ c0 c1 c2, cs = [c0, c1, c2] := by
    match cs, hl with
    | [c0, c1, c2], _ => exact ⟨c0, c1, c2, rfl⟩
  rw [show (Try.prog).cellsOf 5 = 1 by kernel_rfl, List.getElem?_eq_getElem (by omega)] at g0 g2
  rw [show (Try.prog).cellsOf 22 = 1 by kernel_rfl, List.getElem?_eq_getElem (by omega)] at g1
  obtain ⟨k, e0, _, w0⟩ := DataW.trod_int Try.underlying5 g0
  obtain ⟨A, xs, c, e1, l1, m1, o1, k1⟩ := elems_of g1
  obtain ⟨m, e2, _, w2⟩ := DataW.trod_int Try.underlying5 g2
  simp at e0 e1 e2
  subst e0 e1 e2
  exact ⟨k, m, A, xs, c, rfl, w0, w2, Nat.le_trans l1 m1, o1, k1⟩

theorem own_gadgetValues : ownKnob Try.prog.godebug = none := by kernel_rfl
set_option maxRecDepth 100000 in
theorem lifted_gadgetValues (os : Os) (started : os.Started) (H : Type) (enc : TypeId × Value → H) :
    ReturnsInHanded {} Try.checked os 3 .any (Rows.gadgetValuesSpec.pre6 enc Try.prog Try.f3 Rows.gadgetValuesRow.domain false) (Rows.gadgetValuesSpec.post enc Try.prog Try.f3 false true false false) := by
  refine returnsInHanded_of_change (C := Try.checked) own_gadgetValues started (by kernel_rfl) Try.func3
    (ChangeSpec.witness6 (enc := enc) (C := Try.checked) false ⟨#[], #[.int .u8 0, .agg #[.int .u8 0, .slice none 0 0, .int .u8 0], .slice none 0 0, .int .u8 0], []⟩ 8 (by kernel_rfl) (by kernel_rfl) (by kernel_rfl) (by kernel_rfl)) ?_
  intro W base args ds gs before hval0 hW hcnd _
  have hval : ∀ (j : Nat) t v, Try.f3.params[j]? = some t → args[j]? = some v → Value.okWide Try.prog W .any base t v := hval0
  have hW' := hW
  obtain ⟨p, q, hA0, hV, rfl, hfz, hnd⟩ := hW
  have hA : DataW.TrodAll enc Try.prog W 0 (fun _ => true) true Try.f3.params.toList args.toList ds p := hA0
  rw [Try.params3] at hA hval
  clear hA0 hval0
  obtain ⟨v0, vs0, d0, ds0, p0, q0, hargs, rfl, rfl, h0, r0⟩ := trodAll_cons hA
  obtain ⟨v1, vs1, d1, ds1, p1, q1, rfl, rfl, rfl, h1, r1⟩ := trodAll_cons r0
  obtain ⟨v2, vs2, d2, ds2, p2, q2, rfl, rfl, rfl, h2, r2⟩ := trodAll_cons r1
  obtain ⟨v3, vs3, d3, ds3, p3, q3, rfl, rfl, rfl, h3, r3⟩ := trodAll_cons r2
  obtain ⟨rfl, rfl, rfl⟩ := trodAll_nil r3
  obtain rfl : args = #[v0, v1, v2, v3] := by cases args; simp_all
  obtain ⟨rfl, rfl⟩ := trodVars_none hV
  obtain ⟨a0, rfl, _, _, w0⟩ := open_int Try.underlying5 (hval 0 5 v0 rfl rfl) h0
  obtain ⟨k1, m1, A1, x1, c1, rfl, wk, wm, l1, o1, k1'⟩ := open_small (hval 1 24 v1 rfl rfl) h1
  obtain ⟨A2, x2, c2, rfl, l2, m2, e2, o2⟩ := open_elems (hval 2 22 v2 rfl rfl) h2
  obtain ⟨a3, rfl, _, _, w3⟩ := open_int Try.underlying5 (hval 3 5 v3 rfl rfl) h3
  refine (gadgetValues_walk a0 k1 m1 a3 w0 wk wm w3 A1 A2 x1 x2 c1 c2 l1 (Nat.le_trans l2 m2) k1' o2 W o1 e2).mono fun e W' ⟨he, hb⟩ => ?_
  subst he
  exact ⟨_, rfl, law_true (by decide +kernel) rfl rfl Try.underlying4 hW' rfl hb⟩
theorem over_gadgetValues : Rows.gadgetValuesRow.holds Try.pinned (OpenSpec.ofChange Rows.gadgetValuesSpec) :=
  OpenClaim.holds_of_wide 3 Try.f3 rfl rfl rfl rfl rfl rfl rfl ⟨rfl, rfl, rfl, rfl, rfl⟩ rfl rfl rfl rfl rfl (by kernel_rfl) Try.func3 (by kernel_rfl)
    (of_decide_eq_true (by kernel_rfl)) (by unfold Func.isWrapper; first | (rw [if_pos (by decide +kernel)]; kernel_rfl) | (rw [if_neg (by decide +kernel)]; exact ⟨rfl, rfl⟩))
    (fun os started H enc _ => lifted_gadgetValues os started H enc)
theorem gadgetValues_proved : Rows.GadgetValuesSaid := over_gadgetValues
#print axioms gadgetValues_proved
end Go.Proofs.Ytailpfbdanhpmaa
