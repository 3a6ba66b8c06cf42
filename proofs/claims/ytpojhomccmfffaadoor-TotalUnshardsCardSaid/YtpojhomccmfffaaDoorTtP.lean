/-
  Tasks, small ones, as arguments (the part of XTtO that needs no book of windows).
-/
import Derived.Test.YtpojhomccmfffaaDoorEB
import Derived.Test.YtpojhomccmfffaaDoorStructArg
import Derived.Test.YtpojhomccmfffaaDoorFrame
import Derived.ChangeArms
namespace Go.Proofs.YtpojhomccmfffaaDoor
open Go.RowKit Go.WideShapes Go.ChangeShapes F Flow
set_option linter.unusedVariables false

theorem byte_wfT {a : Int} (h : (Lit.int .u8 a).wf = true) : 0 ≤ a ∧ a ≤ 255 := by simpa [Lit.wf, IntKind.min, IntKind.max, IntKind.signed, IntKind.bits] using h
theorem wf_u64T {a : Int} (h : (Lit.int .u64 a).wf = true) : 0 ≤ a ∧ a < 18446744073709551616 := by
  simp [Lit.wf, IntKind.min, IntKind.max, IntKind.signed, IntKind.bits] at h
  omega
section
variable {H : Type} {enc : TypeId × Value → H} {w : World} {base : Nat} {spare : Nat → Bool} {held : Bool} {r : Reach} {b0 : Nat} {v : Value} {d : DataW H} {p : List MemPlace}
theorem cellT {n o : Nat} {t : TypeId} {cs : List Value} {y : Option (DataW H × List MemPlace)} (ht : (Tryd.prog).cellsOf t = 1) (ho : o < cs.length) (h : DataW.trod enc Tryd.prog w base spare held n t ((cs.drop o).take ((Tryd.prog).cellsOf t)) = y) : DataW.trod enc Tryd.prog w base spare held n t [cs[o]] = y := by
  rw [ht, List.drop_eq_getElem_cons ho, List.take_succ_cons, List.take_zero] at h
  exact h
set_option maxRecDepth 20000 in
theorem circuit_of {fuel : Nat} {cs : List Value} {x : DataW H × List MemPlace} (h : DataW.trod enc Tryd.prog w base spare held fuel 31 cs = some x) : ∃ c : Ci, cs = ccl c := by
  obtain ⟨ys, n, _, _, hl, hyl, hf⟩ := DataW.trod_struct Tryd.underlying31 h
  rw [show (Tryd.prog).cellsOf 31 = 6 by kernel_rfl] at hl
  have hyl : ys.length = 6 := hyl
  have g0 : DataW.trod enc Tryd.prog w base spare held n 28 ((cs.drop 0).take ((Tryd.prog).cellsOf 28)) = ys[0]? := hf 0 _ rfl
  rw [List.getElem?_eq_getElem (by omega)] at g0
  obtain ⟨z0, e0, _, wf0⟩ := DataW.trod_int Tryd.underlying28 (cellT (by kernel_rfl) (by omega) g0)
  have g1 : DataW.trod enc Tryd.prog w base spare held n 29 ((cs.drop 1).take ((Tryd.prog).cellsOf 29)) = ys[1]? := hf 1 _ rfl
  rw [List.getElem?_eq_getElem (by omega)] at g1
  obtain ⟨z1, e1, _, wf1⟩ := DataW.trod_int Tryd.underlying29 (cellT (by kernel_rfl) (by omega) g1)
  have g2 : DataW.trod enc Tryd.prog w base spare held n 3 ((cs.drop 2).take ((Tryd.prog).cellsOf 3)) = ys[2]? := hf 2 _ rfl
  rw [List.getElem?_eq_getElem (by omega)] at g2
  obtain ⟨z2, e2, _, wf2⟩ := DataW.trod_int Tryd.underlying3 (cellT (by kernel_rfl) (by omega) g2)
  have g3 : DataW.trod enc Tryd.prog w base spare held n 3 ((cs.drop 3).take ((Tryd.prog).cellsOf 3)) = ys[3]? := hf 3 _ rfl
  rw [List.getElem?_eq_getElem (by omega)] at g3
  obtain ⟨z3, e3, _, wf3⟩ := DataW.trod_int Tryd.underlying3 (cellT (by kernel_rfl) (by omega) g3)
  have g4 : DataW.trod enc Tryd.prog w base spare held n 3 ((cs.drop 4).take ((Tryd.prog).cellsOf 3)) = ys[4]? := hf 4 _ rfl
  rw [List.getElem?_eq_getElem (by omega)] at g4
  obtain ⟨z4, e4, _, wf4⟩ := DataW.trod_int Tryd.underlying3 (cellT (by kernel_rfl) (by omega) g4)
  have g5 : DataW.trod enc Tryd.prog w base spare held n 3 ((cs.drop 5).take ((Tryd.prog).cellsOf 3)) = ys[5]? := hf 5 _ rfl
  rw [List.getElem?_eq_getElem (by omega)] at g5
  obtain ⟨z5, e5, _, wf5⟩ := DataW.trod_int Tryd.underlying3 (cellT (by kernel_rfl) (by omega) g5)
  obtain ⟨c0, c1, c2, c3, c4, c5, rfl⟩ : ∃ c0 c1 c2 c3 c4 c5, cs = [c0, c1, c2, c3, c4, c5] := by
    match cs, hl with
    | [c0, c1, c2, c3, c4, c5], _ => exact ⟨c0, c1, c2, c3, c4, c5, rfl⟩
  simp at e0 e1 e2 e3 e4 e5
  subst e0 e1 e2 e3 e4 e5
  exact ⟨⟨z0, z1, z2, z3, z4, z5⟩, rfl⟩
set_option maxRecDepth 20000 in
theorem small10_of {fuel : Nat} {cs : List Value} {x : DataW H × List MemPlace} (h : DataW.trod enc Tryd.prog w base spare held fuel 23 cs = some x) : ∃ K F' B L W C : Int, cs = s10 K F' B L W C ∧ (0 ≤ K ∧ K ≤ 255) ∧ (0 ≤ F' ∧ F' ≤ 255) ∧ (0 ≤ B ∧ B ≤ 255) ∧ (0 ≤ L ∧ L ≤ 255) ∧ (0 ≤ W ∧ W ≤ 255) ∧ (0 ≤ C ∧ C ≤ 255) := by
  obtain ⟨ys, n, _, _, hl, hyl, hf⟩ := DataW.trod_struct Tryd.underlying23 h
  rw [show (Tryd.prog).cellsOf 23 = 6 by kernel_rfl] at hl
  have hyl : ys.length = 6 := hyl
  have g0 : DataW.trod enc Tryd.prog w base spare held n 5 ((cs.drop 0).take ((Tryd.prog).cellsOf 5)) = ys[0]? := hf 0 _ rfl
  rw [List.getElem?_eq_getElem (by omega)] at g0
  obtain ⟨z0, e0, _, wf0⟩ := DataW.trod_int Tryd.underlying5 (cellT (by kernel_rfl) (by omega) g0)
  have g1 : DataW.trod enc Tryd.prog w base spare held n 5 ((cs.drop 1).take ((Tryd.prog).cellsOf 5)) = ys[1]? := hf 1 _ rfl
  rw [List.getElem?_eq_getElem (by omega)] at g1
  obtain ⟨z1, e1, _, wf1⟩ := DataW.trod_int Tryd.underlying5 (cellT (by kernel_rfl) (by omega) g1)
  have g2 : DataW.trod enc Tryd.prog w base spare held n 5 ((cs.drop 2).take ((Tryd.prog).cellsOf 5)) = ys[2]? := hf 2 _ rfl
  rw [List.getElem?_eq_getElem (by omega)] at g2
  obtain ⟨z2, e2, _, wf2⟩ := DataW.trod_int Tryd.underlying5 (cellT (by kernel_rfl) (by omega) g2)
  have g3 : DataW.trod enc Tryd.prog w base spare held n 5 ((cs.drop 3).take ((Tryd.prog).cellsOf 5)) = ys[3]? := hf 3 _ rfl
  rw [List.getElem?_eq_getElem (by omega)] at g3
  obtain ⟨z3, e3, _, wf3⟩ := DataW.trod_int Tryd.underlying5 (cellT (by kernel_rfl) (by omega) g3)
  have g4 : DataW.trod enc Tryd.prog w base spare held n 5 ((cs.drop 4).take ((Tryd.prog).cellsOf 5)) = ys[4]? := hf 4 _ rfl
  rw [List.getElem?_eq_getElem (by omega)] at g4
  obtain ⟨z4, e4, _, wf4⟩ := DataW.trod_int Tryd.underlying5 (cellT (by kernel_rfl) (by omega) g4)
  have g5 : DataW.trod enc Tryd.prog w base spare held n 5 ((cs.drop 5).take ((Tryd.prog).cellsOf 5)) = ys[5]? := hf 5 _ rfl
  rw [List.getElem?_eq_getElem (by omega)] at g5
  obtain ⟨z5, e5, _, wf5⟩ := DataW.trod_int Tryd.underlying5 (cellT (by kernel_rfl) (by omega) g5)
  obtain ⟨c0, c1, c2, c3, c4, c5, rfl⟩ : ∃ c0 c1 c2 c3 c4 c5, cs = [c0, c1, c2, c3, c4, c5] := by
    match cs, hl with
    | [c0, c1, c2, c3, c4, c5], _ => exact ⟨c0, c1, c2, c3, c4, c5, rfl⟩
  simp at e0 e1 e2 e3 e4 e5
  subst e0 e1 e2 e3 e4 e5
  exact ⟨z0, z1, z2, z3, z4, z5, rfl, byte_wfT wf0, byte_wfT wf1, byte_wfT wf2, byte_wfT wf3, byte_wfT wf4, byte_wfT wf5⟩
set_option maxRecDepth 20000 in
theorem open_task (hv : Value.okWide Tryd.prog w r b0 33 v) (h : DataW.Trod enc Tryd.prog w base spare held 33 v d p) : ∃ (x : Ci) (q : Int) (s : ByteArray), v = .agg (tcl x q s).toArray ∧ s.size ≤ maxLen := by
  obtain ⟨cs, rfl⟩ := okWide_struct Tryd.underlying33 hv
  obtain ⟨fuel, hf⟩ := h
  obtain ⟨ys, n, _, _, hl, hyl, hf⟩ := DataW.trod_struct Tryd.underlying33 hf
  rw [show (Tryd.prog).cellsOf 33 = 8 by kernel_rfl] at hl
  have hcs : (Value.agg cs.toArray).cells.toList = cs := rfl
  try simp only [hcs] at hl hf
  have hyl : ys.length = 3 := hyl
  have g0 : DataW.trod enc Tryd.prog w base spare held n 31 ((cs.drop 0).take ((Tryd.prog).cellsOf 31)) = ys[0]? := hf 0 _ rfl
  rw [show (Tryd.prog).cellsOf 31 = 6 by kernel_rfl, List.getElem?_eq_getElem (by omega)] at g0
  have g1 : DataW.trod enc Tryd.prog w base spare held n 3 ((cs.drop 6).take ((Tryd.prog).cellsOf 3)) = ys[1]? := hf 1 _ rfl
  rw [List.getElem?_eq_getElem (by omega)] at g1
  obtain ⟨z1, e1, _, wf1⟩ := DataW.trod_int Tryd.underlying3 (cellT (by kernel_rfl) (by omega) g1)
  have g2 : DataW.trod enc Tryd.prog w base spare held n 9 ((cs.drop 7).take ((Tryd.prog).cellsOf 9)) = ys[2]? := hf 2 _ rfl
  rw [List.getElem?_eq_getElem (by omega)] at g2
  obtain ⟨s, e2, _, ws⟩ := DataW.trod_string Tryd.underlying9 (cellT (by kernel_rfl) (by omega) g2)
  obtain ⟨x, e0⟩ := circuit_of g0
  obtain ⟨c0, c1, c2, c3, c4, c5, c6, c7, rfl⟩ : ∃ c0 c1 c2 c3 c4 c5 c6 c7, cs = [c0, c1, c2, c3, c4, c5, c6, c7] := by
    match cs, hl with
    | [c0, c1, c2, c3, c4, c5, c6, c7], _ => exact ⟨c0, c1, c2, c3, c4, c5, c6, c7, rfl⟩
  simp [ccl] at e0 e1 e2
  obtain ⟨rfl, rfl, rfl, rfl, rfl, rfl⟩ := e0
  subst e1 e2
  exact ⟨x, z1, s, rfl, ws⟩
/-- Small numbers of a task, all of them bytes. -/
structure Bytes8 (K F' B L W C P T : Int) : Prop where
  k : 0 ≤ K ∧ K ≤ 255
  f : 0 ≤ F' ∧ F' ≤ 255
  b : 0 ≤ B ∧ B ≤ 255
  l : 0 ≤ L ∧ L ≤ 255
  w : 0 ≤ W ∧ W ≤ 255
  c : 0 ≤ C ∧ C ≤ 255
  p : 0 ≤ P ∧ P ≤ 255
  t : 0 ≤ T ∧ T ≤ 255
set_option maxRecDepth 20000 in
theorem open_s13 (hv : Value.okWide Tryd.prog w r b0 25 v) (h : DataW.Trod enc Tryd.prog w base spare held 25 v d p) : ∃ K F' B L W C P T : Int, v = .agg (s13 K F' B L W C P T).toArray ∧ Bytes8 K F' B L W C P T := by
  obtain ⟨cs, rfl⟩ := okWide_struct Tryd.underlying25 hv
  obtain ⟨fuel, hf⟩ := h
  obtain ⟨ys, n, _, _, hl, hyl, hf⟩ := DataW.trod_struct Tryd.underlying25 hf
  rw [show (Tryd.prog).cellsOf 25 = 8 by kernel_rfl] at hl
  have hcs : (Value.agg cs.toArray).cells.toList = cs := rfl
  try simp only [hcs] at hl hf
  have hyl : ys.length = 3 := hyl
  have g0 : DataW.trod enc Tryd.prog w base spare held n 23 ((cs.drop 0).take ((Tryd.prog).cellsOf 23)) = ys[0]? := hf 0 _ rfl
  rw [show (Tryd.prog).cellsOf 23 = 6 by kernel_rfl, List.getElem?_eq_getElem (by omega)] at g0
  have g1 : DataW.trod enc Tryd.prog w base spare held n 5 ((cs.drop 6).take ((Tryd.prog).cellsOf 5)) = ys[1]? := hf 1 _ rfl
  rw [List.getElem?_eq_getElem (by omega)] at g1
  obtain ⟨z1, e1, _, wf1⟩ := DataW.trod_int Tryd.underlying5 (cellT (by kernel_rfl) (by omega) g1)
  have g2 : DataW.trod enc Tryd.prog w base spare held n 5 ((cs.drop 7).take ((Tryd.prog).cellsOf 5)) = ys[2]? := hf 2 _ rfl
  rw [List.getElem?_eq_getElem (by omega)] at g2
  obtain ⟨z2, e2, _, wf2⟩ := DataW.trod_int Tryd.underlying5 (cellT (by kernel_rfl) (by omega) g2)
  obtain ⟨K, F', B, L, W, C, e0, k, f, b, l, w', c⟩ := small10_of g0
  obtain ⟨c0, c1, c2, c3, c4, c5, c6, c7, rfl⟩ : ∃ c0 c1 c2 c3 c4 c5 c6 c7, cs = [c0, c1, c2, c3, c4, c5, c6, c7] := by
    match cs, hl with
    | [c0, c1, c2, c3, c4, c5, c6, c7], _ => exact ⟨c0, c1, c2, c3, c4, c5, c6, c7, rfl⟩
  simp [s10] at e0 e1 e2
  obtain ⟨rfl, rfl, rfl, rfl, rfl, rfl⟩ := e0
  subst e1 e2
  exact ⟨K, F', B, L, W, C, z1, z2, rfl, ⟨k, f, b, l, w', c, byte_wfT wf1, byte_wfT wf2⟩⟩
end
end Go.Proofs.YtpojhomccmfffaaDoor
