/-
  Things: what the law's argument reads as.
-/
import Derived.Test.YtdjgkojcckopaaaRdF
import Derived.Test.YtdjgkojcckopaaaOpenRows
import Derived.Test.YtdjgkojcckopaaaStructArg
import Derived.Test.YtdjgkojcckopaaaBytesArg
namespace Go.Proofs.Ytdjgkojcckopaaa
open Go.RowKit Flow Go.WideShapes Go.ChangeShapes
set_option linter.unusedVariables false
set_option linter.unusedSimpArgs false

/-- Bytes out of a reading of a slice. -/
theorem bytes_of {H : Type} {enc : TypeId × Value → H} {w : World} {base : Nat} {spare : Nat → Bool} {held : Bool} {fuel : Nat} {cs : List Value} {x : DataW H × List MemPlace} (h : DataW.trod enc Try.prog w base spare held fuel 23 cs = some x) :
    ∃ (A : Option Addr) (bs : List Int) (c : Nat), cs = [.slice A bs.length c] ∧ ArgBytes w A bs ∧ (A = none → c = 0) ∧ bs.length ≤ c ∧ ∀ y, y ∈ bs → 0 ≤ y ∧ y < 256 := by
  have hc8 : (Try.prog).cellsOf 5 = 1 := by kernel_rfl
  rcases Go.Deep.open_slice Try.underlying23 h with ⟨hc, _⟩ | ⟨a, len, cap, m, n, D, Pl, hcs, hb, hl, hm, hmm, hx, hel⟩
  · exact ⟨none, [], 0, hc, ⟨fun _ => rfl, fun a ha => by cases ha⟩, fun _ => rfl, Nat.le_refl _, fun y hy => by cases hy⟩
  · have hlm : len ≤ m := by rw [hmm]; split <;> omega
    have key : ∀ i, i < len → ∃ x : Int, (0 ≤ x ∧ x < 256) ∧ w.cell? (a.add i) = some (.int .u8 x) := by
      intro i hil
      obtain ⟨cs', hc, ht⟩ := hel i (by omega)
      rw [hc8] at hc
      obtain ⟨x0, e0, _, w0⟩ := DataW.trod_int Try.underlying5 ht
      subst e0
      obtain ⟨_, _, hat⟩ := World.cells?_some hc
      have g0 := hat 0 (by omega)
      rw [Go.Deep.add_add, Nat.mul_one, Nat.add_zero] at g0
      refine ⟨x0, ?_, g0⟩
      simp [Lit.wf, IntKind.min, IntKind.max, IntKind.signed, IntKind.bits] at w0
      omega
    obtain ⟨f, hf⟩ := Go.Deep.choose_lt key
    refine ⟨some a, (List.range len).map f, cap, by simpa using hcs, ⟨fun h => (by cases h), fun a' ha' j u hj => ?_⟩, fun h => (by cases h), by simpa using hl, fun x hx => ?_⟩
    · cases ha'
      have hj' : j < len := by have := (List.getElem?_eq_some_iff.1 hj).1; simpa using this
      rw [(hf j hj').2]
      simp [hj'] at hj
      rw [← hj]
    · obtain ⟨i, him, rfl⟩ := List.mem_map.1 hx
      exact (hf i (List.mem_range.1 him)).1
/-- What a thing's cells are. -/
structure ThingOf (w : World) (k n s : Int) (A : Option Addr) (bs : List Int) (c : Nat) (ss : List Int) : Prop where
  k0 : 0 ≤ k ∧ k < 256
  n0 : 0 ≤ n ∧ n < 18446744073709551616
  s0 : -9223372036854775808 ≤ s ∧ s < 9223372036854775808
  hB : ArgBytes w A bs
  hc : A = none → c = 0
  hcap : bs.length ≤ c
  hb : ∀ y, y ∈ bs → 0 ≤ y ∧ y < 256
  hs : ss.length = 16 ∧ ∀ y, y ∈ ss → 0 ≤ y ∧ y < 256
def tcells (k n s : Int) (A : Option Addr) (m c : Nat) (ss : List Int) : List Value := .int .u8 k :: .int .u64 n :: .int .i64 s :: .slice A m c :: ss.map (Value.int .u8)
def IsThing (w : World) (cs : List Value) : Prop := ∃ k n s A bs c ss, cs = tcells k n s A bs.length c ss ∧ ThingOf w k n s A bs c ss
theorem thing_of {H : Type} {enc : TypeId × Value → H} {w : World} {base : Nat} {spare : Nat → Bool} {held : Bool} {fuel : Nat} {cs : List Value} {x : DataW H × List MemPlace} (h : DataW.trod enc Try.prog w base spare held fuel 30 cs = some x) : IsThing w cs := by
  have h8 : (Try.prog).cellsOf 5 = 1 := by kernel_rfl
  have h6 : (Try.prog).cellsOf 27 = 1 := by kernel_rfl
  have hi : (Try.prog).cellsOf 3 = 1 := by kernel_rfl
  have hb : (Try.prog).cellsOf 23 = 1 := by kernel_rfl
  have ha : (Try.prog).cellsOf 28 = 16 := by kernel_rfl
  have ht : (Try.prog).cellsOf 30 = 20 := by kernel_rfl
  obtain ⟨ys, n', _, _, hl, hyl, hf⟩ := DataW.trod_struct Try.underlying30 h
  rw [ht] at hl
  have f0 : DataW.trod enc Try.prog w base spare held n' 5 ((cs.drop 0).take ((Try.prog).cellsOf 5)) = ys[0]? := hf 0 _ rfl
  have f1 : DataW.trod enc Try.prog w base spare held n' 27 ((cs.drop 1).take ((Try.prog).cellsOf 27)) = ys[1]? := hf 1 _ rfl
  have f2 : DataW.trod enc Try.prog w base spare held n' 3 ((cs.drop 2).take ((Try.prog).cellsOf 3)) = ys[2]? := hf 2 _ rfl
  have f3 : DataW.trod enc Try.prog w base spare held n' 23 ((cs.drop 3).take ((Try.prog).cellsOf 23)) = ys[3]? := hf 3 _ rfl
  have f4 : DataW.trod enc Try.prog w base spare held n' 28 ((cs.drop 4).take ((Try.prog).cellsOf 28)) = ys[4]? := hf 4 _ rfl
  have hyl5 : ys.length = 5 := hyl
  rw [h8, List.getElem?_eq_getElem (show 0 < ys.length by omega)] at f0
  rw [h6, List.getElem?_eq_getElem (show 1 < ys.length by omega)] at f1
  rw [hi, List.getElem?_eq_getElem (show 2 < ys.length by omega)] at f2
  rw [hb, List.getElem?_eq_getElem (show 3 < ys.length by omega)] at f3
  rw [ha, List.getElem?_eq_getElem (show 4 < ys.length by omega)] at f4
  obtain ⟨k, e0, _, w0⟩ := DataW.trod_int Try.underlying5 f0
  obtain ⟨n, e1, _, w1⟩ := DataW.trod_int Try.underlying27 f1
  obtain ⟨s, e2, _, w2⟩ := DataW.trod_int Try.underlying3 f2
  obtain ⟨A, bs, c, e3, hB, hc, hcap, hbs⟩ := bytes_of f3
  obtain ⟨ss, hsl, e4, hss⟩ := ints_of_trod Try.underlying28 Try.underlying5 h8 ha f4
  have hcs : cs = cs.take 1 ++ ((cs.drop 1).take 1 ++ ((cs.drop 2).take 1 ++ ((cs.drop 3).take 1 ++ (cs.drop 4).take 16))) := by
    have g : ∀ (l : List Value) (n m : Nat), l.drop n = (l.drop n).take m ++ l.drop (n + m) := fun l n m => by rw [← List.drop_drop, List.take_append_drop]
    have g4 : (cs.drop 4).take 16 = cs.drop 4 := List.take_of_length_le (by simp; omega)
    rw [g4]
    conv => lhs; rw [← List.drop_zero (l := cs), g cs 0 1, g cs 1 1, g cs 2 1, g cs 3 1]
    rfl
  refine ⟨k, n, s, A, bs, c, ss, ?_, ⟨?_, ?_, ?_, hB, hc, hcap, hbs, hsl, ?_⟩⟩
  · rw [hcs]
    simp only [List.drop_zero] at e0
    rw [e0, e1, e2, e3, e4]
    rfl
  · simp [Lit.wf, IntKind.min, IntKind.max, IntKind.signed, IntKind.bits] at w0
    omega
  · simp [Lit.wf, IntKind.min, IntKind.max, IntKind.signed, IntKind.bits] at w1
    omega
  · simp [Lit.wf, IntKind.min, IntKind.max, IntKind.signed, IntKind.bits] at w2
    omega
  · intro y hy
    have := hss y hy
    simp [Lit.wf, IntKind.min, IntKind.max, IntKind.signed, IntKind.bits] at this
    omega
end Go.Proofs.Ytdjgkojcckopaaa
