/-
  An element put into a row of its own, anywhere: at the end, in its midst, where there is room and where there is none.
-/
import Derived.Test.YtkngcffgoimjkaaReplayD
import Derived.Test.YtkngcffgoimjkaaAppend
import Derived.Shelf.Spec.SlicesInsertGrow
import Derived.Laws.CopyRow
import Derived.Lib.Overlaps
import Derived.Lib.AppendZerosOnto
namespace Go.Proofs.Ytkngcffgoimjkaa
open Go.RowKit Flow
set_option linter.unusedVariables false
set_option linter.unusedSimpArgs false

/-- A copy of elements of several cells each into a row. -/
theorem run_copy_rowN {P : Program} (w : World) (dT sT ty elem : TypeId) (g o dLen dCap : Nat) (a : Addr) (sLen sCap : Nat) (cur : Array Value) (t : TypeId) (cs : List Value) (k : Nat)
    (hu : P.underlying dT = some (.slice elem)) (hs : (P.info? elem).map (·.size) = some k)
    (hg : w.heap[g]? = some (.cells cur t (0, 0))) (hn : cs.length = Nat.min sLen dLen * k)
    (hsrc : ∀ j v, cs[j]? = some v → w.cell? (a.add j) = some v) (hfit : o + cs.length ≤ cur.size) (h1 : ∀ v ∈ cs, v.oneCell' = true) :
    (Builtin.copy_ #[dT, sT] ty #[.slice (some ⟨g, o, none⟩) dLen dCap, .slice (some a) sLen sCap]).run P w =
      .ok (goInt (Nat.min sLen dLen)) (w.setRow g (cur.toList.take o ++ cs ++ cur.toList.drop (o + cs.length)).toArray) := by
  have hl := run_loadCells_list (P := P) w a cs hsrc
  have hst := run_storeCells_at P g o t cs 0 cur w hg (by simpa using hfit) h1
  cases hq : P.info? elem with
  | none => simp [hq] at hs
  | some i =>
    have hi : i.size = k := by simpa [hq] using hs
    simp [Builtin.copy_, run_underlying hu, Builtin.lenOf, Builtin.firstCells, sizeOf, typeInfo, hq, hi, ← hn, hl, hst]
theorem setRow_far {w : World} {g k : Nat} {X : Array Value} (h : k ≠ g) : (w.setRow g X).heap[k]? = w.heap[k]? := by
  unfold World.setRow
  simp [Array.getElem?_modify, Ne.symm h]
theorem setRow_size {w : World} {g : Nat} {X : Array Value} : (w.setRow g X).heap.size = w.heap.size := by
  unfold World.setRow
  simp
/-- What stands in a row behind both copies. -/
theorem ins_list (cur xs nv : List Value) (a k n : Nat) (hnv : nv.length = k) (ha : a ≤ n) (hx : cur.take n = xs) (hl : n + k ≤ cur.length) :
    (((cur.take (a + k) ++ xs.drop a ++ cur.drop (a + k + (xs.drop a).length)).take a ++ nv ++ (cur.take (a + k) ++ xs.drop a ++ cur.drop (a + k + (xs.drop a).length)).drop (a + nv.length)).take (n + k)) = xs.take a ++ nv ++ xs.drop a := by
  have hxl : xs.length = n := by rw [← hx, List.length_take]; omega
  have e1 : (cur.take (a + k) ++ xs.drop a ++ cur.drop (a + k + (xs.drop a).length)).take a = xs.take a := by
    rw [List.append_assoc, List.take_append_of_le_length (by rw [List.length_take]; omega), List.take_take, Nat.min_eq_left (by omega), ← hx, List.take_take, Nat.min_eq_left ha]
  have e2 : (cur.take (a + k) ++ xs.drop a ++ cur.drop (a + k + (xs.drop a).length)).drop (a + nv.length) = xs.drop a ++ cur.drop (a + k + (xs.drop a).length) := by
    rw [List.append_assoc, List.drop_append_of_le_length (by rw [List.length_take]; omega), hnv, List.drop_of_length_le (by rw [List.length_take]; omega), List.nil_append]
  rw [e1, e2, ← List.append_assoc, List.take_append_of_le_length (by simp; omega), List.take_of_length_le (by simp; omega)]
theorem size_list (cur xs nv : List Value) (a k n : Nat) (hnv : nv.length = k) (ha : a ≤ n) (hxl : xs.length = n) (hl : n + k ≤ cur.length) :
    ((cur.take (a + k) ++ xs.drop a ++ cur.drop (a + k + (xs.drop a).length)).take a ++ nv ++ (cur.take (a + k) ++ xs.drop a ++ cur.drop (a + k + (xs.drop a).length)).drop (a + nv.length)).length = cur.length := by
  simp
  omega
theorem ins_list2 (ROW xs nv : List Value) (a k n : Nat) (hnv : nv.length = k) (ha : a ≤ n) (hxl : xs.length = n) (hx : ROW.take a = xs.take a) (hl : n + k ≤ ROW.length) :
    (((ROW.take a ++ nv ++ ROW.drop (a + nv.length)).take (a + k) ++ xs.drop a ++ (ROW.take a ++ nv ++ ROW.drop (a + nv.length)).drop (a + k + (xs.drop a).length)).take (n + k)) = xs.take a ++ nv ++ xs.drop a := by
  have hal : (xs.take a).length = a := by rw [List.length_take]; omega
  have e1 : (ROW.take a ++ nv ++ ROW.drop (a + nv.length)).take (a + k) = xs.take a ++ nv := by
    rw [hx, List.take_append_of_le_length (by simp; omega), List.take_of_length_le (by simp; omega)]
  rw [e1, List.take_append_of_le_length (by simp; omega), List.take_of_length_le (by simp; omega)]
theorem size_list2 (ROW xs nv : List Value) (a k n : Nat) (hnv : nv.length = k) (ha : a ≤ n) (hxl : xs.length = n) (hl : n + k ≤ ROW.length) :
    ((ROW.take a ++ nv ++ ROW.drop (a + nv.length)).take (a + k) ++ xs.drop a ++ (ROW.take a ++ nv ++ ROW.drop (a + nv.length)).drop (a + k + (xs.drop a).length)).length = ROW.length := by
  simp
  omega
end Go.Proofs.Ytkngcffgoimjkaa
