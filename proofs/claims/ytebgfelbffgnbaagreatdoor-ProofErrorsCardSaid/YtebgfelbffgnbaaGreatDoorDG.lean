import Derived.Test.YtebgfelbffgnbaaGreatDoorDD
import Derived.Test.YtebgfelbffgnbaaGreatDoorBD
import Derived.Outline
import Derived.Deep.DeepCutAuto
import Derived.Deep.CutBlock
/-
  Sums as numbers.
-/
namespace Go.Proofs.YtebgfelbffgnbaaGreatDoor
open Go.RowKit Flow F
set_option linter.unusedVariables false
set_option linter.unusedSimpArgs false

/-- A row of words. -/
def WRow (w : World) (g : Nat) (zs : List Int) : Prop := w.heap[g]? = some (.cells (zs.map (Value.int .u64)).toArray 26 (0, 0))
theorem WRow.up {w w' : World} {g : Nat} {zs : List Int} (h : WRow w g zs) (hb : Below w.heap.size w w') : WRow w' g zs := keeps hb h
theorem WRow.alloc {w : World} {g : Nat} {zs : List Int} (h : WRow w g zs) (o : Obj) : WRow (w.alloc o) g zs := alloc_keeps h
theorem WRow.at_ {w : World} {g k : Nat} {zs : List Int} (h : WRow w g zs) (hk : k < zs.length) : w.cell? ⟨g, k, none⟩ = some (.int .u64 (zs.getD k 0)) := by
  have h' : w.heap[g]? = some (.cells (zs.map (Value.int .u64)).toArray 26 (0, 0)) := h
  simp [World.cell?, h', hk]
theorem WRow.free {w : World} {g : Nat} {zs : List Int} (h : WRow w g zs) (k : Nat) : w.frozen? ⟨g, k, none⟩ = false := by
  have h' : w.heap[g]? = some (.cells (zs.map (Value.int .u64)).toArray 26 (0, 0)) := h
  simp [World.frozen?, h']
theorem WRow.set {w : World} {g k : Nat} {zs : List Int} (h : WRow w g zs) (z : Int) : WRow (w.setCell ⟨g, k, none⟩ (.int .u64 z)) g (zs.set k z) := by
  unfold WRow at *
  rw [store1 h]
  simp [List.map_set]
/-- Its error. -/
def decE (x : Ci) (N : Nat) (xs : List Int) (many : Int) : Int := if x.code = 0 then (if N = x.outN then (if many < 0 ∨ 256 < many then 6 else (if allLe (many * (x.mostN : Int)) xs = true then 0 else 6)) else 9) else x.code
def DecOut (xs : List Int) (w : World) (e : Ending) (w' : World) : Prop := ∃ g, e = .returned (.tuple #[.slice (some ⟨g, 0, none⟩) xs.length xs.length, .int .i64 0]) ∧ Below w.heap.size w w' ∧ w.heap.size ≤ g ∧ WRow w' g xs
def DecBad (c : Int) (w : World) (e : Ending) (w' : World) : Prop := e = .returned (.tuple #[.slice none 0 0, .int .i64 c]) ∧ Below w.heap.size w w'
end Go.Proofs.YtebgfelbffgnbaaGreatDoor

/-
  CircuitDecodes: its walk.
-/
namespace Go.Proofs.YtebgfelbffgnbaaGreatDoor
open Go.RowKit Flow F
set_option linter.unusedVariables false
set_option linter.unusedSimpArgs false

/-- Decode of any circuit. -/
def DecAny (C : Int) (xs : List Int) (w : World) (e : Ending) (w' : World) : Prop := (C = 0 ∧ DecOut xs w e w') ∨ (C ≠ 0 ∧ DecBad C w e w')
/-- The cells of a circuit. -/
def ccells (x : Ci) : List Value := [.int .u8 x.k, .int .u8 x.f, .int .i64 x.b, .int .i64 x.l, .int .i64 x.w, .int .i64 x.c]
def DecU (E : Int) (xs : List Int) (w : World) (e : Ending) (w' : World) : Prop := ∃ (Ag : Option Addr) (l : Nat), e = .returned (.tuple #[.slice Ag l l, .int .i64 E]) ∧ Below w.heap.size w w' ∧ (E ≠ 0 → l = 0) ∧ (E = 0 → l = xs.length ∧ WordsAt w' Ag xs)
/-- Two circuits in a row. -/
def Pair (w : World) (g : Nat) (c X : Ci) : Prop := w.heap[g]? = some (.cells (ccells c ++ ccells X).toArray 33 (0, 0))
theorem Pair.at_ {w : World} {g : Nat} {c X : Ci} (h : Pair w g c X) (n : Nat) (hn : n < 2) : w.rangeAt g (n * 6) (ccells (if n = 0 then c else X)) := fun j v hj => by
  have h' : w.heap[g]? = some (.cells (ccells c ++ ccells X).toArray 33 (0, 0)) := h
  have hj6 : j < 6 := by have := (List.getElem?_eq_some_iff.1 hj).1; simpa [ccells] using this
  simp only [World.cell?, h']
  have hn2 : n = 0 ∨ n = 1 := by omega
  rcases hn2 with rfl | rfl
  · rw [if_pos rfl] at hj
    rw [← hj, List.getElem?_toArray, List.getElem?_append_left (by simp [ccells]; omega)]
    simp
  · rw [if_neg (by omega)] at hj
    rw [← hj, List.getElem?_toArray, List.getElem?_append_right (by simp [ccells])]
    simp [ccells]
def zero6 : List Value := [.int .u8 0, .int .u8 0, .int .i64 0, .int .i64 0, .int .i64 0, .int .i64 0]
def three (m : Int) (i : Nat) : Int := if i = 0 then m else if i = 1 then 3 else 256
end Go.Proofs.YtebgfelbffgnbaaGreatDoor
