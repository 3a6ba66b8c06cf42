import Derived.Test.YtebgfelbffgnbaaGreatDoorElems
import Derived.Test.YtebgfelbffgnbaaGreatDoorCards
import Derived.Test.YtebgfelbffgnbaaGreatDoorTie
import Derived.ProofKit
import Derived.LaidMore
import Derived.OpenShut
import Derived.Stop.Joined
import Derived.SevenTiedAt
import Derived.Test.YtebgfelbffgnbaaGreatDoorBA
import Derived.Deep.MidRow
import Derived.Deep.WholeRow
/-
  The frame of a law whose row lists package variables, plain tables, as the program lays them (a tied card).
-/
namespace Go.Proofs.YtebgfelbffgnbaaGreatDoor
open Go.ChangeShapes Go.WideShapes Go.ChangeAt Go.WideElems Go.RowKit

theorem card_own : ownKnob Tryz.prog.godebug = none := by kernel_rfl

end Go.Proofs.YtebgfelbffgnbaaGreatDoor

/-
  A variable of many cells, read as a whole in a walk: laws of our own over the kit's laws of such loads.
-/
namespace Go.Proofs.YtebgfelbffgnbaaGreatDoor.Flow
open Go Go.RowKit
set_option linter.unusedVariables false

/-- A slice built of one value of many cells: the cells laid one by one are the value's. -/
theorem build_get : ∀ (l : List Value) (n : Nat) (z : Array Value), (List.foldl (fun (cs : Array Value) (x : Value × Nat) => cs.setIfInBounds x.2 x.1) z (l.zipIdx n)).size = z.size ∧
    ∀ i, i < z.size → (List.foldl (fun (cs : Array Value) (x : Value × Nat) => cs.setIfInBounds x.2 x.1) z (l.zipIdx n))[i]? = if n ≤ i ∧ i - n < l.length then l[i - n]? else z[i]?
  | [], n, z => ⟨rfl, fun i _ => by simp⟩
  | v :: l, n, z => by
    rw [List.zipIdx_cons, List.foldl_cons]
    obtain ⟨h1, h2⟩ := build_get l (n + 1) (z.setIfInBounds n v)
    refine ⟨h1.trans (by simp), fun i hi => ?_⟩
    rw [h2 i (by simpa using hi)]
    by_cases hin : i = n
    · subst hin
      rw [if_neg (by omega), if_pos (by simp)]
      simp [hi]
    · by_cases hlt : n ≤ i
      · by_cases hlen : i - (n + 1) < l.length
        · rw [if_pos ⟨by omega, hlen⟩, if_pos ⟨hlt, by simp; omega⟩, show i - n = (i - (n + 1)) + 1 by omega]
          simp
        · rw [if_neg (by omega), if_neg (by simp; omega), Array.getElem?_setIfInBounds_ne (by omega)]
      · rw [if_neg (by omega), if_neg (by omega), Array.getElem?_setIfInBounds_ne (by omega)]
theorem build_one (l : List Value) (z : Array Value) (h : z.size = l.length) : List.foldl (fun (cs : Array Value) (x : Value × Nat) => cs.setIfInBounds x.2 x.1) z l.zipIdx = l.toArray := by
  obtain ⟨h1, h2⟩ := build_get l 0 z
  refine Array.ext_getElem? fun i => ?_
  by_cases hi : i < z.size
  · rw [h2 i hi, if_pos (by omega)]
    simp
  · rw [Array.getElem?_eq_none (by omega), Array.getElem?_eq_none (by simp; omega)]

/-- All blocks that were there are as they were, but for one. -/
structure But (p : Nat) (w w' : World) : Prop where
  os : w'.os = w.os
  tape : w'.tape = w.tape
  output : w'.output = w.output
  size : w.heap.size ≤ w'.heap.size
  block : ∀ k, k < w.heap.size → k ≠ p → w'.heap[k]? = w.heap[k]?
theorem But.below {B p : Nat} {a w w' : World} (h : But p w w') (hb : Below B a w) (hB : B ≤ p) (hs : B ≤ w.heap.size) : Below B a w' :=
  hb.trans ⟨h.os, h.tape, h.output, h.size, fun k hk => h.block k (by omega) (by omega)⟩
theorem But.of_below {p : Nat} {w w' : World} (h : Below w.heap.size w w') : But p w w' := ⟨h.os, h.tape, h.output, h.size, fun k hk _ => h.block k hk⟩
theorem But.set {p o : Nat} {w w' : World} (h : But p w w') (v : Value) : But p w (w'.setCell ⟨p, o, none⟩ v) :=
  ⟨h.os, h.tape, h.output, by simp [World.setCell]; exact h.size, fun k hk hne => (Below.heap_setCell _ _ _ _ hne).trans (h.block k hk hne)⟩
theorem But.next {p : Nat} {w w1 w2 : World} (h : But p w w1) (h2 : Below w1.heap.size w1 w2) : But p w w2 :=
  ⟨h2.os.trans h.os, h2.tape.trans h.tape, h2.output.trans h.output, Nat.le_trans h.size h2.size, fun k hk hne => (h2.block k (Nat.lt_of_lt_of_le hk h.size)).trans (h.block k hk hne)⟩
/-- The cells of a block from its beginning on. -/
def At0 (w : World) (g : Nat) (cs : List Value) : Prop := w.rangeAt g 0 cs
theorem At0.up {w w' : World} {g : Nat} {cs : List Value} (h : At0 w g cs) (hb : Below w.heap.size w w') : At0 w' g cs := fun j v hj => (hb.cell (World.block_lt_of_cell? _ _ (h j v hj))).trans (h j v hj)
theorem At0.far {w : World} {g p o : Nat} {cs : List Value} {u : Value} (h : At0 w g cs) (hgp : g ≠ p) : At0 (w.setCell ⟨p, o, none⟩ u) g cs := fun j v hj => by
  have e : (w.setCell ⟨p, o, none⟩ u).heap[g]? = w.heap[g]? := Below.heap_setCell _ _ _ _ hgp
  rw [World.cell?_of_block (w := w) (a := ⟨g, 0 + j, none⟩) e]
  exact h j v hj
theorem calm_normal {Q : Exit → Act → World → Prop} {a : Act} {w : World} (h : Q .normal a w) : Flow.Calm Q .normal a w := h

theorem heap_setCells : ∀ (vs : List Value) (o b : Nat) (w : World) (c : Array Value) (t : TypeId) (fr : Nat × Nat), w.heap[b]? = some (.cells c t fr) →
    (w.setCells b o vs).heap[b]? = some (.cells (List.foldl (fun (cs : Array Value) (x : Value × Nat) => cs.setIfInBounds x.2 x.1) c (vs.zipIdx o)) t fr)
  | [], _, _, _, _, _, _, h => h
  | v :: vs, o, b, w, c, t, fr, h => by
    rw [World.setCells, List.zipIdx_cons, List.foldl_cons]
    exact heap_setCells vs (o + 1) b _ _ t fr (store1 h)
theorem But.setCells {p : Nat} {w : World} : ∀ (vs : List Value) (o : Nat) (w' : World), But p w w' → But p w (w'.setCells p o vs)
  | [], _, _, h => h
  | v :: vs, o, w', h => But.setCells vs (o + 1) _ (h.set v)
theorem But.refl (p : Nat) (w : World) : But p w w := ⟨rfl, rfl, rfl, Nat.le_refl _, fun _ _ _ => rfl⟩
/-- A whole variable is written, in a plain region: its block holds the value's cells behind it. -/
theorem list_store_whole {P : Program} {ops : Array Oper} {rest : List Oper} {op : Oper} {a : Act} {w : World} {Q : Exit → Act → World → Prop} (ty : TypeId) (x y : Operand) (b : Nat) (cs old : List Value) (t' : TypeId)
    (hw : Region.wanted op (yielded ops a.tmps) = true) (ho : op.op = .store ty x y) (hx : a.eval x = .pointer (some ⟨b, 0, none⟩)) (hy : a.eval y = .agg cs.toArray)
    (hb : w.heap[b]? = some (.cells old.toArray t' (0, 0))) (hl : old.length = cs.length) (hi : (P.info? ty).map (·.size) = some cs.length) (h1 : ∀ u ∈ cs, u.oneCell' = true)
    (h : ∀ w', But b w w' → w'.heap[b]? = some (.cells cs.toArray t' (0, 0)) → wpList P ops Q rest (a.put op.dst undef) w') : wpList P ops Q (op :: rest) a w :=
  wpList_step fun _ hK => by
    rw [if_pos hw]
    refine wp_store_mid ty x y ho b 0 cs.toArray hx hy (fun j hj => ?_) (by simpa using hi) (by simpa using h1) (hK _ _ (h _ ((But.refl b w).setCells cs 0 w) ?_))
    · have hj' : j < old.length := by rw [hl]; simpa using hj
      simp [World.cell?, World.frozen?, hb, hj']
    · rw [heap_setCells _ _ _ _ _ _ _ hb, build_one _ _ (by simpa using hl)]
end Go.Proofs.YtebgfelbffgnbaaGreatDoor.Flow
