/-
  A variable of many cells, read as a whole in a walk: laws of our own over the kit's laws of such loads.
-/
import Derived.Test.YtkngcffgoimjkaaFlow
import Derived.Deep.MidRow
import Derived.Deep.WholeRow
namespace Go.Proofs.Ytkngcffgoimjkaa.Flow
open Go Go.RowKit

/-- In the textual walk of a drawn region. -/
theorem quiet_load_mid {P : Program} {ops : Array Oper} {C : World → Prop} {Q : Act → Prop} {a : Act} {op : Oper} {rest : List Oper} (ty : TypeId) (x : Operand) (b o : Nat) (cs : List Value) (d : TypeDesc)
    (hw : Region.wanted op (yielded ops a.tmps) = true) (ho : op.op = .load ty x) (hx : a.eval x = .pointer (some ⟨b, o, none⟩)) (hc : ∀ w, C w → w.rangeAt b o cs)
    (hu : P.underlying ty = some d) (hd : d.isRow = true) (hi : (P.info? ty).map (·.size) = some cs.length)
    (h : wpQuiet P ops C Q rest (a.put op.dst (.agg cs.toArray))) : wpQuiet P ops C Q (op :: rest) a := by
  unfold wpQuiet
  rw [if_pos hw]
  refine ⟨.agg cs.toArray, fun w hC => ?_, h⟩
  unfold Oper.quietAt execOp
  simp only [ho, hx, Instr.loadAt, Instr.sureAddr, Sem.run_bind, Sem.run_pure, Result.andThen_ok, run_loadVar_mid w b o ty cs d (hc w hC) hu hd hi]
  exact ⟨rfl, rfl⟩
theorem mid_family {W : World} {ι : Type} {φ : ι → World} (hφ : Family W ι φ) {b o : Nat} {cs : List Value} (h : W.rangeAt b o cs) : ∀ w, (∃ i, w = φ i) → w.rangeAt b o cs := fun w ⟨i, e⟩ j v hj => by
  subst e
  exact hφ.cell (h j v hj) i
/-- In a plain region, the operation being guarded. -/
theorem list_load_mid {P : Program} {ops : Array Oper} {rest : List Oper} {op : Oper} {a : Act} {w : World} {Q : Exit → Act → World → Prop} (ty : TypeId) (x : Operand) (b o : Nat) (cs : List Value) (d : TypeDesc)
    (hw : Region.wanted op (yielded ops a.tmps) = true) (ho : op.op = .load ty x) (hx : a.eval x = .pointer (some ⟨b, o, none⟩)) (hc : w.rangeAt b o cs)
    (hu : P.underlying ty = some d) (hd : d.isRow = true) (hi : (P.info? ty).map (·.size) = some cs.length)
    (h : wpList P ops Q rest (a.put op.dst (.agg cs.toArray)) w) : wpList P ops Q (op :: rest) a w :=
  wpList_step fun _ hK => by rw [if_pos hw]; exact wp_load_mid ty x ho b o hx cs d hc hu hd hi (hK _ _ h)
/-- A slice built of one value of many cells: the cells laid one by one are the value's. -/
theorem build_get : ∀ (l : List Value) (n : Nat) (z : Array Value), (List.foldl (fun (cs : Array Value) (x : Value × Nat) => cs.setIfInBounds x.2 x.1) z (l.zipIdx n)).size = z.size ∧
    ∀ i, i < z.size → (List.foldl (fun (cs : Array Value) (x : Value × Nat) => cs.setIfInBounds x.2 x.1) z (l.zipIdx n))[i]? = if n ≤ i ∧ i - n < l.length then l[i - n]? else z[i]?
  | [], n, z => ⟨rfl, fun i _ => by simp⟩
  | v :: l, n, z => by
    rw [List.zipIdx_cons, List.foldl_cons]
    obtain ⟨h1, h2⟩ := build_get l (n + 1) (z.setIfInBounds n v)
    refine ⟨h1.trans (by simp), fun i hi => ?_⟩
    rw [h2 i (by simpa using hi)]
    by_cases hin : i = n
    · subst hin
      rw [if_neg (by omega), if_pos (by simp)]
      simp [hi]
    · by_cases hlt : n ≤ i
      · by_cases hlen : i - (n + 1) < l.length
        · rw [if_pos ⟨by omega, hlen⟩, if_pos ⟨hlt, by simp; omega⟩, show i - n = (i - (n + 1)) + 1 by omega]
          simp
        · rw [if_neg (by omega), if_neg (by simp; omega), Array.getElem?_setIfInBounds_ne (by omega)]
      · rw [if_neg (by omega), if_neg (by omega), Array.getElem?_setIfInBounds_ne (by omega)]
theorem build_one (l : List Value) (z : Array Value) (h : z.size = l.length) : List.foldl (fun (cs : Array Value) (x : Value × Nat) => cs.setIfInBounds x.2 x.1) z l.zipIdx = l.toArray := by
  obtain ⟨h1, h2⟩ := build_get l 0 z
  refine Array.ext_getElem? fun i => ?_
  by_cases hi : i < z.size
  · rw [h2 i hi, if_pos (by omega)]
    simp
  · rw [Array.getElem?_eq_none (by omega), Array.getElem?_eq_none (by simp; omega)]
end Go.Proofs.Ytkngcffgoimjkaa.Flow
