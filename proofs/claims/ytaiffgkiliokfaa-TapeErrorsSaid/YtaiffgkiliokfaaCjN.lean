/-
  A circuit, and small numbers of one, as arguments.
-/
import Derived.Test.YtaiffgkiliokfaaDD
import Derived.Test.YtaiffgkiliokfaaStructArg
import Derived.Test.YtaiffgkiliokfaaFrame
namespace Go.Proofs.Ytaiffgkiliokfaa
open Go.RowKit Go.WideShapes Go.ChangeShapes F Flow
set_option linter.unusedVariables false

theorem byte_wf {a : Int} (h : (Lit.int .u8 a).wf = true) : 0 ≤ a ∧ a ≤ 255 := by simpa [Lit.wf, IntKind.min, IntKind.max, IntKind.signed, IntKind.bits] using h
set_option maxRecDepth 20000 in
theorem open_circuit {H : Type} {enc : TypeId × Value → H} {w : World} {base : Nat} {spare : Nat → Bool} {held : Bool} {r : Reach} {b0 : Nat} {v : Value} {d : DataW H} {p : List MemPlace}
    (hv : Value.okWide Try.prog w r b0 29 v) (h : DataW.Trod enc Try.prog w base spare held 29 v d p) : ∃ x : Ci, v = cvl x ∧ 0 ≤ x.k ∧ x.k ≤ 255 ∧ 0 ≤ x.f ∧ x.f ≤ 255 := by
  obtain ⟨cs, rfl⟩ := okWide_struct Try.underlying29 hv
  obtain ⟨fuel, hf⟩ := h
  obtain ⟨ys, n, _, _, hl, hyl, hf⟩ := DataW.trod_struct Try.underlying29 hf
  rw [show (Try.prog).cellsOf 29 = 6 by kernel_rfl] at hl
  have hcs : (Value.agg cs.toArray).cells.toList = cs := rfl
  try simp only [hcs] at hl hf
  have hyl : ys.length = 6 := hyl
  have g0 : DataW.trod enc Try.prog w base spare held n 26 ((cs.drop 0).take ((Try.prog).cellsOf 26)) = ys[0]? := hf 0 _ rfl
  have g1 : DataW.trod enc Try.prog w base spare held n 27 ((cs.drop 1).take ((Try.prog).cellsOf 27)) = ys[1]? := hf 1 _ rfl
  have g2 : DataW.trod enc Try.prog w base spare held n 3 ((cs.drop 2).take ((Try.prog).cellsOf 3)) = ys[2]? := hf 2 _ rfl
  have g3 : DataW.trod enc Try.prog w base spare held n 3 ((cs.drop 3).take ((Try.prog).cellsOf 3)) = ys[3]? := hf 3 _ rfl
  have g4 : DataW.trod enc Try.prog w base spare held n 3 ((cs.drop 4).take ((Try.prog).cellsOf 3)) = ys[4]? := hf 4 _ rfl
  have g5 : DataW.trod enc Try.prog w base spare held n 3 ((cs.drop 5).take ((Try.prog).cellsOf 3)) = ys[5]? := hf 5 _ rfl
  obtain ⟨c0, c1, c2, c3, c4, c5, rfl⟩ : ∃ c0 c1 c2 c3 c4 c5, cs = [c0, c1, c2, c3, c4, c5] := by
    match cs, hl with
    | [c0, c1, c2, c3, c4, c5], _ => exact ⟨c0, c1, c2, c3, c4, c5, rfl⟩
  rw [show (Try.prog).cellsOf 26 = 1 by kernel_rfl, List.getElem?_eq_getElem (by omega)] at g0
  rw [show (Try.prog).cellsOf 27 = 1 by kernel_rfl, List.getElem?_eq_getElem (by omega)] at g1
  rw [show (Try.prog).cellsOf 3 = 1 by kernel_rfl, List.getElem?_eq_getElem (by omega)] at g2 g3 g4 g5
  obtain ⟨a, e0, _, w0⟩ := DataW.trod_int Try.underlying26 g0
  obtain ⟨b, e1, _, w1⟩ := DataW.trod_int Try.underlying27 g1
  obtain ⟨c, e2, _, w2⟩ := DataW.trod_int Try.underlying3 g2
  obtain ⟨d, e3, _, w3⟩ := DataW.trod_int Try.underlying3 g3
  obtain ⟨e, e4, _, w4⟩ := DataW.trod_int Try.underlying3 g4
  obtain ⟨f, e5, _, w5⟩ := DataW.trod_int Try.underlying3 g5
  simp at e0 e1 e2 e3 e4 e5
  subst e0 e1 e2 e3 e4 e5
  have h0 := byte_wf w0
  have h1 := byte_wf w1
  exact ⟨⟨a, b, c, d, e, f⟩, rfl, h0.1, h0.2, h1.1, h1.2⟩
/-- Small numbers, all of them bytes. -/
structure Bytes6 (K F B L W C : Int) : Prop where
  k0 : 0 ≤ K
  k1 : K ≤ 255
  f0 : 0 ≤ F
  f1 : F ≤ 255
  b0 : 0 ≤ B
  b1 : B ≤ 255
  l0 : 0 ≤ L
  l1 : L ≤ 255
  w0 : 0 ≤ W
  w1 : W ≤ 255
  c0 : 0 ≤ C
  c1 : C ≤ 255
set_option maxRecDepth 20000 in
theorem open_small {H : Type} {enc : TypeId × Value → H} {w : World} {base : Nat} {spare : Nat → Bool} {held : Bool} {r : Reach} {b0 : Nat} {v : Value} {d : DataW H} {p : List MemPlace}
    (hv : Value.okWide Try.prog w r b0 23 v) (h : DataW.Trod enc Try.prog w base spare held 23 v d p) : ∃ K F B L W C : Int, v = svl K F B L W C ∧ Bytes6 K F B L W C := by
  obtain ⟨cs, rfl⟩ := okWide_struct Try.underlying23 hv
  obtain ⟨fuel, hf⟩ := h
  obtain ⟨ys, n, _, _, hl, hyl, hf⟩ := DataW.trod_struct Try.underlying23 hf
  rw [show (Try.prog).cellsOf 23 = 6 by kernel_rfl] at hl
  have hcs : (Value.agg cs.toArray).cells.toList = cs := rfl
  try simp only [hcs] at hl hf
  have hyl : ys.length = 6 := hyl
  have g0 : DataW.trod enc Try.prog w base spare held n 5 ((cs.drop 0).take ((Try.prog).cellsOf 5)) = ys[0]? := hf 0 _ rfl
  have g1 : DataW.trod enc Try.prog w base spare held n 5 ((cs.drop 1).take ((Try.prog).cellsOf 5)) = ys[1]? := hf 1 _ rfl
  have g2 : DataW.trod enc Try.prog w base spare held n 5 ((cs.drop 2).take ((Try.prog).cellsOf 5)) = ys[2]? := hf 2 _ rfl
  have g3 : DataW.trod enc Try.prog w base spare held n 5 ((cs.drop 3).take ((Try.prog).cellsOf 5)) = ys[3]? := hf 3 _ rfl
  have g4 : DataW.trod enc Try.prog w base spare held n 5 ((cs.drop 4).take ((Try.prog).cellsOf 5)) = ys[4]? := hf 4 _ rfl
  have g5 : DataW.trod enc Try.prog w base spare held n 5 ((cs.drop 5).take ((Try.prog).cellsOf 5)) = ys[5]? := hf 5 _ rfl
  obtain ⟨c0, c1, c2, c3, c4, c5, rfl⟩ : ∃ c0 c1 c2 c3 c4 c5, cs = [c0, c1, c2, c3, c4, c5] := by
    match cs, hl with
    | [c0, c1, c2, c3, c4, c5], _ => exact ⟨c0, c1, c2, c3, c4, c5, rfl⟩
  rw [show (Try.prog).cellsOf 5 = 1 by kernel_rfl, List.getElem?_eq_getElem (by omega)] at g0
  rw [show (Try.prog).cellsOf 5 = 1 by kernel_rfl, List.getElem?_eq_getElem (by omega)] at g1
  rw [show (Try.prog).cellsOf 5 = 1 by kernel_rfl, List.getElem?_eq_getElem (by omega)] at g2 g3 g4 g5
  obtain ⟨a, e0, _, w0⟩ := DataW.trod_int Try.underlying5 g0
  obtain ⟨b, e1, _, w1⟩ := DataW.trod_int Try.underlying5 g1
  obtain ⟨c, e2, _, w2⟩ := DataW.trod_int Try.underlying5 g2
  obtain ⟨d, e3, _, w3⟩ := DataW.trod_int Try.underlying5 g3
  obtain ⟨e, e4, _, w4⟩ := DataW.trod_int Try.underlying5 g4
  obtain ⟨f, e5, _, w5⟩ := DataW.trod_int Try.underlying5 g5
  simp at e0 e1 e2 e3 e4 e5
  subst e0 e1 e2 e3 e4 e5
  have h0 := byte_wf w0
  have h1 := byte_wf w1
  have h2 := byte_wf w2
  have h3 := byte_wf w3
  have h4 := byte_wf w4
  have h5 := byte_wf w5
  exact ⟨a, b, c, d, e, f, rfl, h0.1, h0.2, h1.1, h1.2, h2.1, h2.2, h3.1, h3.2, h4.1, h4.2, h5.1, h5.2⟩
end Go.Proofs.Ytaiffgkiliokfaa
