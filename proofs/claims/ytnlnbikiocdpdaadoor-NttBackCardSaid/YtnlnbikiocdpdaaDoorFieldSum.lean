/-
  Contracts of package field: the sum of a slice, whatever the sum of two is.
-/
import Derived.Test.YtnlnbikiocdpdaaDoorFieldN
namespace Go.Proofs.YtnlnbikiocdpdaaDoor
open Go.RowKit F Flow
set_option linter.unusedVariables false
attribute [local go_sem] eql_elem

/-- A variable that holds an element. -/
def Holds (w : World) (b : Nat) (x : Int) : Prop := w.heap[b]? = some (.cells #[.int .u64 (lo x), .int .u64 (hi x)] 34 (0, 0))
theorem Holds.up {w w' : World} {b : Nat} {x : Int} (h : Holds w b x) (hb : Below w.heap.size w w') : Holds w' b x := keeps hb h
theorem Holds.new {w : World} {x : Int} : Holds (w.alloc (.cells #[.int .u64 (lo x), .int .u64 (hi x)] 34)) w.heap.size x := alloc_at rfl
theorem Holds.alloc {w : World} {b : Nat} {x : Int} (h : Holds w b x) (o : Obj) : Holds (w.alloc o) b x := alloc_keeps h
theorem Holds.set {w : World} {b : Nat} {x : Int} (h : Holds w b x) (z : Int) : Holds ((w.setCell ⟨b, 0, none⟩ (.int .u64 (lo z))).setCell ⟨b, 1, none⟩ (.int .u64 (hi z))) b z := store2 h
theorem Holds.far {w : World} {b c : Nat} {x : Int} {u v : Value} (h : Holds w b x) (hbc : b ≠ c) : Holds ((w.setCell ⟨c, 0, none⟩ u).setCell ⟨c, 1, none⟩ v) b x := store2_far h hbc
theorem ElemsAt.far {w : World} {A : Option Addr} {xs : List Int} {c B : Nat} {u v : Value} (h : ElemsAt w A xs) (hB : ∀ b o, A = some ⟨b, o, none⟩ → xs.length ≠ 0 → b < B) (hc : B ≤ c) : ElemsAt ((w.setCell ⟨c, 0, none⟩ u).setCell ⟨c, 1, none⟩ v) A xs := fun k hk => by
  obtain ⟨b, o, e, h1, h2⟩ := h k hk
  have hlt := hB b o e (by omega)
  refine ⟨b, o, e, ?_, ?_⟩
  · rw [World.cell?_setCell_other _ _ _ _ (by simp <;> omega), World.cell?_setCell_other _ _ _ _ (by simp <;> omega)]; exact h1
  · rw [World.cell?_setCell_other _ _ _ _ (by simp <;> omega), World.cell?_setCell_other _ _ _ _ (by simp <;> omega)]; exact h2
/-- Both lie in old memory, so anything that leaves old memory as it is keeps them. -/
theorem ElemsAt.old {w w' : World} {A : Option Addr} {xs : List Int} (h : ElemsAt w A xs) (hb : Below w.heap.size w w') : ElemsAt w' A xs := h.up hb

theorem foldl_take {α : Type} (f : Int → α → Int) (xs : List α) (d : α) (k : Nat) (hk : k < xs.length) : (xs.take (k + 1)).foldl f 0 = f ((xs.take k).foldl f 0) (xs.getD k d) := by
  rw [List.take_succ_eq_append_getElem hk, List.foldl_append]
  simp [hk]
theorem foldl_zero : ∀ (xs : List Int), xs.foldl (fun _ _ => 0) (0 : Int) = 0
  | [] => rfl
  | _ :: xs => foldl_zero xs
end Go.Proofs.YtnlnbikiocdpdaaDoor
