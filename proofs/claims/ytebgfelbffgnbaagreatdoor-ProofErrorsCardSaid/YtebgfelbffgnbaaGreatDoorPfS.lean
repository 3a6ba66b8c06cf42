/-
  A struct by value as an argument, opened; an array of whole numbers among its fields.
-/
import Derived.Test.YtebgfelbffgnbaaGreatDoorRows
import Derived.WalkKit
import Derived.ProofKit
import Derived.OpenShut
import Derived.Deep.Slices
import Derived.Test.YtebgfelbffgnbaaGreatDoorDD
import Derived.Test.YtebgfelbffgnbaaGreatDoorElems
import Derived.Test.YtebgfelbffgnbaaGreatDoorPfR
import Derived.Test.YtebgfelbffgnbaaGreatDoorBX
import Derived.Test.YtebgfelbffgnbaaGreatDoorBB
namespace Go.Proofs.YtebgfelbffgnbaaGreatDoor
open Go.RowKit Go.WideShapes Go.ChangeShapes
section
variable {H : Type} {enc : TypeId × Value → H} {P : Program} {w : World} {base : Nat} {spare : Nat → Bool} {held : Bool}
theorem okWide_struct {t : TypeId} {fs : Array Field} {r : Reach} {b0 : Nat} {v : Value} (ht : P.underlying t = some (.struct fs)) (h : Value.okWide P w r b0 t v) : ∃ cs : List Value, v = .agg cs.toArray := by
  simp only [Value.okWide, ht] at h
  obtain ⟨cs, h1, _⟩ := h
  exact ⟨cs.toList, h1⟩
end
end Go.Proofs.YtebgfelbffgnbaaGreatDoor
/-
  A circuit, and small numbers of one, as arguments.
-/
namespace Go.Proofs.YtebgfelbffgnbaaGreatDoor
open Go.RowKit Go.WideShapes Go.ChangeShapes F Flow
set_option linter.unusedVariables false

theorem byte_wf {a : Int} (h : (Lit.int .u8 a).wf = true) : 0 ≤ a ∧ a ≤ 255 := by simpa [Lit.wf, IntKind.min, IntKind.max, IntKind.signed, IntKind.bits] using h
set_option maxRecDepth 20000 in
theorem open_circuit {H : Type} {enc : TypeId × Value → H} {w : World} {base : Nat} {spare : Nat → Bool} {held : Bool} {r : Reach} {b0 : Nat} {v : Value} {d : DataW H} {p : List MemPlace}
    (hv : Value.okWide Tryz.prog w r b0 33 v) (h : DataW.Trod enc Tryz.prog w base spare held 33 v d p) : ∃ x : Ci, v = cvl x ∧ 0 ≤ x.k ∧ x.k ≤ 255 ∧ 0 ≤ x.f ∧ x.f ≤ 255 := by
  obtain ⟨cs, rfl⟩ := okWide_struct Tryz.underlying33 hv
  obtain ⟨fuel, hf⟩ := h
  obtain ⟨ys, n, _, _, hl, hyl, hf⟩ := DataW.trod_struct Tryz.underlying33 hf
  rw [show (Tryz.prog).cellsOf 33 = 6 by kernel_rfl] at hl
  have hcs : (Value.agg cs.toArray).cells.toList = cs := rfl
  try simp only [hcs] at hl hf
  have hyl : ys.length = 6 := hyl
  have g0 : DataW.trod enc Tryz.prog w base spare held n 30 ((cs.drop 0).take ((Tryz.prog).cellsOf 30)) = ys[0]? := hf 0 _ rfl
  have g1 : DataW.trod enc Tryz.prog w base spare held n 31 ((cs.drop 1).take ((Tryz.prog).cellsOf 31)) = ys[1]? := hf 1 _ rfl
  have g2 : DataW.trod enc Tryz.prog w base spare held n 3 ((cs.drop 2).take ((Tryz.prog).cellsOf 3)) = ys[2]? := hf 2 _ rfl
  have g3 : DataW.trod enc Tryz.prog w base spare held n 3 ((cs.drop 3).take ((Tryz.prog).cellsOf 3)) = ys[3]? := hf 3 _ rfl
  have g4 : DataW.trod enc Tryz.prog w base spare held n 3 ((cs.drop 4).take ((Tryz.prog).cellsOf 3)) = ys[4]? := hf 4 _ rfl
  have g5 : DataW.trod enc Tryz.prog w base spare held n 3 ((cs.drop 5).take ((Tryz.prog).cellsOf 3)) = ys[5]? := hf 5 _ rfl
  obtain ⟨c0, c1, c2, c3, c4, c5, rfl⟩ : ∃ c0 c1 c2 c3 c4 c5, cs = [c0, c1, c2, c3, c4, c5] := by
    match cs, hl with
    | [c0, c1, c2, c3, c4, c5], _ => exact ⟨c0, c1, c2, c3, c4, c5, rfl⟩
  rw [show (Tryz.prog).cellsOf 30 = 1 by kernel_rfl, List.getElem?_eq_getElem (by omega)] at g0
  rw [show (Tryz.prog).cellsOf 31 = 1 by kernel_rfl, List.getElem?_eq_getElem (by omega)] at g1
  rw [show (Tryz.prog).cellsOf 3 = 1 by kernel_rfl, List.getElem?_eq_getElem (by omega)] at g2 g3 g4 g5
  obtain ⟨a, e0, _, w0⟩ := DataW.trod_int Tryz.underlying30 g0
  obtain ⟨b, e1, _, w1⟩ := DataW.trod_int Tryz.underlying31 g1
  obtain ⟨c, e2, _, w2⟩ := DataW.trod_int Tryz.underlying3 g2
  obtain ⟨d, e3, _, w3⟩ := DataW.trod_int Tryz.underlying3 g3
  obtain ⟨e, e4, _, w4⟩ := DataW.trod_int Tryz.underlying3 g4
  obtain ⟨f, e5, _, w5⟩ := DataW.trod_int Tryz.underlying3 g5
  simp at e0 e1 e2 e3 e4 e5
  subst e0 e1 e2 e3 e4 e5
  have h0 := byte_wf w0
  have h1 := byte_wf w1
  exact ⟨⟨a, b, c, d, e, f⟩, rfl, h0.1, h0.2, h1.1, h1.2⟩
/-- Small numbers, all of them bytes. -/
structure Bytes6 (K F B L W C : Int) : Prop where
  k0 : 0 ≤ K
  k1 : K ≤ 255
  f0 : 0 ≤ F
  f1 : F ≤ 255
  b0 : 0 ≤ B
  b1 : B ≤ 255
  l0 : 0 ≤ L
  l1 : L ≤ 255
  w0 : 0 ≤ W
  w1 : W ≤ 255
  c0 : 0 ≤ C
  c1 : C ≤ 255
set_option maxRecDepth 20000 in
theorem open_small {H : Type} {enc : TypeId × Value → H} {w : World} {base : Nat} {spare : Nat → Bool} {held : Bool} {r : Reach} {b0 : Nat} {v : Value} {d : DataW H} {p : List MemPlace}
    (hv : Value.okWide Tryz.prog w r b0 23 v) (h : DataW.Trod enc Tryz.prog w base spare held 23 v d p) : ∃ K F B L W C : Int, v = svl K F B L W C ∧ Bytes6 K F B L W C := by
  obtain ⟨cs, rfl⟩ := okWide_struct Tryz.underlying23 hv
  obtain ⟨fuel, hf⟩ := h
  obtain ⟨ys, n, _, _, hl, hyl, hf⟩ := DataW.trod_struct Tryz.underlying23 hf
  rw [show (Tryz.prog).cellsOf 23 = 6 by kernel_rfl] at hl
  have hcs : (Value.agg cs.toArray).cells.toList = cs := rfl
  try simp only [hcs] at hl hf
  have hyl : ys.length = 6 := hyl
  have g0 : DataW.trod enc Tryz.prog w base spare held n 5 ((cs.drop 0).take ((Tryz.prog).cellsOf 5)) = ys[0]? := hf 0 _ rfl
  have g1 : DataW.trod enc Tryz.prog w base spare held n 5 ((cs.drop 1).take ((Tryz.prog).cellsOf 5)) = ys[1]? := hf 1 _ rfl
  have g2 : DataW.trod enc Tryz.prog w base spare held n 5 ((cs.drop 2).take ((Tryz.prog).cellsOf 5)) = ys[2]? := hf 2 _ rfl
  have g3 : DataW.trod enc Tryz.prog w base spare held n 5 ((cs.drop 3).take ((Tryz.prog).cellsOf 5)) = ys[3]? := hf 3 _ rfl
  have g4 : DataW.trod enc Tryz.prog w base spare held n 5 ((cs.drop 4).take ((Tryz.prog).cellsOf 5)) = ys[4]? := hf 4 _ rfl
  have g5 : DataW.trod enc Tryz.prog w base spare held n 5 ((cs.drop 5).take ((Tryz.prog).cellsOf 5)) = ys[5]? := hf 5 _ rfl
  obtain ⟨c0, c1, c2, c3, c4, c5, rfl⟩ : ∃ c0 c1 c2 c3 c4 c5, cs = [c0, c1, c2, c3, c4, c5] := by
    match cs, hl with
    | [c0, c1, c2, c3, c4, c5], _ => exact ⟨c0, c1, c2, c3, c4, c5, rfl⟩
  rw [show (Tryz.prog).cellsOf 5 = 1 by kernel_rfl, List.getElem?_eq_getElem (by omega)] at g0
  rw [show (Tryz.prog).cellsOf 5 = 1 by kernel_rfl, List.getElem?_eq_getElem (by omega)] at g1
  rw [show (Tryz.prog).cellsOf 5 = 1 by kernel_rfl, List.getElem?_eq_getElem (by omega)] at g2 g3 g4 g5
  obtain ⟨a, e0, _, w0⟩ := DataW.trod_int Tryz.underlying5 g0
  obtain ⟨b, e1, _, w1⟩ := DataW.trod_int Tryz.underlying5 g1
  obtain ⟨c, e2, _, w2⟩ := DataW.trod_int Tryz.underlying5 g2
  obtain ⟨d, e3, _, w3⟩ := DataW.trod_int Tryz.underlying5 g3
  obtain ⟨e, e4, _, w4⟩ := DataW.trod_int Tryz.underlying5 g4
  obtain ⟨f, e5, _, w5⟩ := DataW.trod_int Tryz.underlying5 g5
  simp at e0 e1 e2 e3 e4 e5
  subst e0 e1 e2 e3 e4 e5
  have h0 := byte_wf w0
  have h1 := byte_wf w1
  have h2 := byte_wf w2
  have h3 := byte_wf w3
  have h4 := byte_wf w4
  have h5 := byte_wf w5
  exact ⟨a, b, c, d, e, f, rfl, h0.1, h0.2, h1.1, h1.2, h2.1, h2.2, h3.1, h3.2, h4.1, h4.2, h5.1, h5.2⟩
end Go.Proofs.YtebgfelbffgnbaaGreatDoor
/-
  ProofErrors, proved: a circuit that may not be is the error that the document asks, of a proof's making, asking, deciding and of the circuit itself; too many seeds, too long a vector, too long a proof, too many of a verifier's elements are the error of size: of any circuit and any small one, with no condition; where the listed tables read as the program lays them.
-/
namespace Go.Proofs.YtebgfelbffgnbaaGreatDoor
open Go.ChangeShapes Go.WideShapes Go.ChangeAt Go.WideElems Go.RowKit F Flow
set_option linter.unusedVariables false

theorem doorMet_proofErrors (os : Os) (args : Array Value) : laidMetH Tryz.prog Rows.proofErrorsRow.laid ((World.doorLaid Tryz.prog 4000 os).forCall (fun _ _ => 0) ⟨#[], args, []⟩).memory :=
  laidMetH_of_parts3 (fuel := 200) (laidMet_of_run' 200 (by kernel_rfl) (by kernel_rfl)) (by kernel_rfl) (by kernel_rfl)
set_option maxRecDepth 100000 in
theorem lifted_proofErrors (os : Os) (started : os.Started) (H : Type) (enc : TypeId × Value → H) :
    ReturnsInHanded {} Tryz.checked os 9 .any (fun w args => (Rows.proofErrorsSpec.pre enc Tryz.prog Tryz.f9 [] false w args ∧ laidMetH Tryz.prog Rows.proofErrorsRow.laid w) ∧ sizedMet enc Tryz.prog Tryz.f9 (OpenSpec.ofChange Rows.proofErrorsSpec) false w args)
      (Rows.proofErrorsSpec.post enc Tryz.prog Tryz.f9 false true false false) := by
  refine returnsInHanded_of_change_and (C := Tryz.checked) (X := fun w _ => laidMetH Tryz.prog Rows.proofErrorsRow.laid w) (fun _ _ _ hh h => h.of_heap hh) card_own started (by kernel_rfl) Tryz.func9
    (ChangeSpec.witness_shaped (enc := enc) (C := Tryz.checked) (os := os) (X := fun w _ => laidMetH Tryz.prog Rows.proofErrorsRow.laid w) false (World.doorLaid Tryz.prog 4000 os) #[.agg #[.int .u8 0, .int .u8 0, .int .i64 0, .int .i64 0, .int .i64 0, .int .i64 0], .agg #[.int .u8 0, .int .u8 0, .int .u8 0, .int .u8 0, .int .u8 0, .int .u8 0], .agg #[.int .u64 0, .int .u64 0], .int .u8 0] 8 rfl (World.shaped_of_RefB (by kernel_rfl) (by kernel_rfl)) (by kernel_rfl) (by kernel_rfl) (by kernel_rfl) (doorMet_proofErrors os _)) ?_
  intro W base args ds gs before hval0 hW _ _ hL _
  have hval : ∀ (j : Nat) t v, Tryz.f9.params[j]? = some t → args[j]? = some v → Value.okWide Tryz.prog W .any base t v := hval0
  have hW' := hW
  obtain ⟨p, q, hA0, hV, rfl, hfz, hnd⟩ := hW
  have hA : DataW.TrodAll enc Tryz.prog W 0 (fun _ => true) true Tryz.f9.params.toList args.toList ds p := hA0
  rw [Tryz.params9] at hA hval
  clear hA0 hval0
  obtain ⟨v0, vs0, d0, ds0, p0, q0, hargs, rfl, rfl, h0, r0⟩ := trodAll_cons hA
  obtain ⟨v1, vs1, d1, ds1, p1, q1, rfl, rfl, rfl, h1, r1⟩ := trodAll_cons r0
  obtain ⟨v2, vs2, d2, ds2, p2, q2, rfl, rfl, rfl, h2, r2⟩ := trodAll_cons r1
  obtain ⟨v3, vs3, d3, ds3, p3, q3, rfl, rfl, rfl, h3, r3⟩ := trodAll_cons r2
  obtain ⟨rfl, rfl, rfl⟩ := trodAll_nil r3
  obtain rfl : args = #[v0, v1, v2, v3] := by cases args; simp_all
  obtain ⟨rfl, rfl⟩ := trodVars_none hV
  obtain ⟨x0, rfl, ck0, ck1, cf0, cf1⟩ := open_circuit (hval 0 33 v0 rfl rfl) h0
  obtain ⟨K, F', B, L, W', C, rfl, s⟩ := open_small (hval 1 23 v1 rfl rfl) h1
  obtain ⟨a2, w2, u2, rfl, _, _⟩ := open_elem (hval 2 28 v2 rfl rfl) h2
  obtain ⟨a3, rfl, _, _, w3⟩ := open_int Tryz.underlying5 (hval 3 5 v3 rfl rfl) h3
  have hb := byte_wf w3
  refine (proofErrors_walk x0 ck0 ck1 cf0 cf1 K F' B L W' C s.k0 s.k1 s.f0 s.f1 s.b0 s.b1 s.l0 s.l1 s.w0 s.w1 s.c0 s.c1 a2 a3 hb.1 hb.2 W (tabs_of hL)).mono fun e W' ⟨he, hb⟩ => ?_
  subst he
  exact ⟨_, rfl, law_true (by decide +kernel) rfl rfl Tryz.underlying4 hW' rfl hb⟩
theorem over_proofErrors : Rows.proofErrorsRow.holds Tryz.pinned (OpenSpec.ofChange Rows.proofErrorsSpec) :=
  OpenClaim.holds_of_wide 9 Tryz.f9 rfl rfl rfl rfl rfl rfl rfl ⟨rfl, rfl, rfl, rfl, rfl⟩ rfl rfl rfl rfl rfl (by kernel_rfl) Tryz.func9 (by kernel_rfl)
    (of_decide_eq_true (by kernel_rfl)) (by unfold Func.isWrapper; first | (rw [if_pos (by decide +kernel)]; kernel_rfl) | (rw [if_neg (by decide +kernel)]; exact ⟨rfl, rfl⟩))
    (fun os started H enc _ => lifted_proofErrors os started H enc)
theorem card_proofErrors : Claim7.holds Tryz.pinned (.plain (OpenSpec.ofChange Rows.proofErrorsSpec)) Rows.proofErrorsCard :=
  Claim7.holds_tied_plain_at .later [] Rows.proofErrorsCard.laidKinds true Rows.proofErrorsCard.stood.harness Rows.proofErrorsCard.stood.looks
    over_proofErrors (fun _ h => by cases h) (by kernel_rfl) (fun _ h => by cases h) proofErrors_row_tie rfl ⟨rfl, rfl⟩ (by kernel_rfl) rfl
    (fun f fn hf hfn => by
      obtain rfl : f = 9 := Option.some.inj ((show Tryz.prog.funcNamed Rows.proofErrorsRow.func = some 9 by kernel_rfl).symm.trans hf) |>.symm
      obtain rfl : fn = Tryz.f9 := (Option.some.inj (Tryz.func9.symm.trans hfn)).symm
      exact ⟨by kernel_rfl, fun j t ht => by
        rw [Tryz.params9] at ht
        have hm : t ∈ [33, 23, 28, 5] := by simpa using Array.mem_of_getElem? ht
        have hall : ([33, 23, 28, 5].all fun u => !Tryz.prog.wantsStandIn u) = true := by kernel_rfl
        exact (show Tryz.prog.wantsStandIn t = false by simpa using List.all_eq_true.1 hall t hm)⟩)
    (by kernel_rfl)
theorem proofErrors_proved : Rows.ProofErrorsCardSaid := card_proofErrors
#print axioms proofErrors_proved
end Go.Proofs.YtebgfelbffgnbaaGreatDoor
