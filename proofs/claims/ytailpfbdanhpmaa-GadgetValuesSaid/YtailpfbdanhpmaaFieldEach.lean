/-
  Contracts of package field: what is done place by place, whatever is done with two; Dot; Powers.
-/
import Derived.Test.YtailpfbdanhpmaaElemRow
import Derived.Test.YtailpfbdanhpmaaSeg
namespace Go.Proofs.Ytailpfbdanhpmaa
open Go.RowKit F Flow
set_option linter.unusedVariables false
attribute [local go_sem] eql_elem

theorem zip_length {op : Int → Int → Int} {xs ys : List Int} (h : xs.length = ys.length) : (List.zipWith op xs ys).length = xs.length := by simp [h]
theorem zip_at {op : Int → Int → Int} {xs ys : List Int} {k : Nat} (h : xs.length = ys.length) (hk : k < xs.length) : (List.zipWith op xs ys).getD k 0 = op (xs.getD k 0) (ys.getD k 0) := by
  have hk2 : k < ys.length := by omega
  simp [List.getElem?_zipWith, hk, hk2]
/-- What two elements come to, by a call that makes new memory alone. -/
def OpBy (f : FuncId) (n : Int) (op : Int → Int → Int) : Prop :=
  ∀ a b, 0 ≤ a → a < 340282366920938463463374607431768211456 → 0 ≤ b → b < 340282366920938463463374607431768211456 → (0 ≤ op a b ∧ op a b < 340282366920938463463374607431768211456) ∧
      ∀ w, Calls Try.prog f #[.int .u8 n, .agg #[.int .u64 (lo a), .int .u64 (hi a)], .agg #[.int .u64 (lo b), .int .u64 (hi b)]] w fun e w' => e = .returned (.agg #[.int .u64 (lo (op a b)), .int .u64 (hi (op a b))]) ∧ Below w.heap.size w w'
theorem ElemsOK.zip {op : Int → Int → Int} {xs ys : List Int} (h : ∀ a b, 0 ≤ a → a < 340282366920938463463374607431768211456 → 0 ≤ b → b < 340282366920938463463374607431768211456 → (0 ≤ op a b ∧ op a b < 340282366920938463463374607431768211456)) (hx : ElemsOK xs) (hy : ElemsOK ys) : ElemsOK (List.zipWith op xs ys) := by
  intro z hz
  induction xs generalizing ys with
  | nil => simp at hz
  | cons x xs ih =>
    cases ys with
    | nil => simp at hz
    | cons y ys =>
      rw [List.zipWith_cons_cons, List.mem_cons] at hz
      rcases hz with rfl | hz
      · exact h _ _ (hx x (by simp)).1 (hx x (by simp)).2 (hy y (by simp)).1 (hy y (by simp)).2
      · exact ih (fun a ha => hx a (by simp [ha])) (fun a ha => hy a (by simp [ha])) hz
end Go.Proofs.Ytailpfbdanhpmaa
