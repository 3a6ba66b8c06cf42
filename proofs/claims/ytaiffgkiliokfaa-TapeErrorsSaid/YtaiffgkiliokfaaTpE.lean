/-
  TapeBack: to each draw by which one vector has a first share belongs just one by which another vector has it.
-/
import Derived.Test.YtaiffgkiliokfaaTpD
import Derived.Test.YtaiffgkiliokfaaFrame
import Derived.Test.YtaiffgkiliokfaaElems
import Derived.IntWalk
namespace Go.Proofs.Ytaiffgkiliokfaa
open Go.RowKit F Flow Go.WideShapes Go.ChangeShapes
set_option linter.unusedVariables false
set_option linter.unusedSimpArgs false
attribute [local go_sem] eql_elem

theorem sub_sub (f a b : Int) (hb : 0 ≤ b ∧ b < M f) : sub f a (sub f a b) = b := by
  have hr : redu f b = b := redu_of_lt hb.1 hb.2
  have h1 : redu f (sub f a b) = sub f a b := redu_of_lt (sub_bound f a b).1 (sub_bound f a b).2
  have hM := M_pos f
  have ha := redu_lt f a
  have ha0 := redu_nonneg f a
  conv => lhs; unfold sub
  rw [show ((redu f a - redu f b) % M f) = sub f a b from rfl, h1]
  by_cases h : redu f b ≤ redu f a
  · rw [sub_more h, hr]
    rw [show redu f a - (redu f a - b) = b by omega]
    exact Int.emod_eq_of_lt hb.1 hb.2
  · rw [sub_less (by omega), hr]
    rw [show redu f a - (M f - (b - redu f a)) = b - M f by omega, Int.sub_emod_right]
    exact Int.emod_eq_of_lt hb.1 hb.2
theorem zip_back (f : Int) : ∀ (xs ys : List Int), xs.length = ys.length → InF f ys → List.zipWith (sub f) xs (List.zipWith (sub f) xs ys) = ys
  | [], [], _, _ => rfl
  | x :: xs, y :: ys, h, hi => by
    rw [List.zipWith_cons_cons, List.zipWith_cons_cons, sub_sub f x y (hi y (by simp)), zip_back f xs ys (by simpa using h) (fun z hz => hi z (by simp [hz]))]
/-- Blocks that hold elements. -/
def RowsAt (w : World) (l : List (Nat × List Int)) : Prop := ∀ p, p ∈ l → Row w p.1 p.2
theorem RowsAt.up {w w' : World} {l : List (Nat × List Int)} (h : RowsAt w l) (hb : Below w.heap.size w w') : RowsAt w' l := fun p hp => (h p hp).up hb
theorem RowsAt.cons {w : World} {l : List (Nat × List Int)} {g : Nat} {xs : List Int} (h : RowsAt w l) (hr : Row w g xs) : RowsAt w ((g, xs) :: l) := fun p hp => by
  rcases List.mem_cons.1 hp with rfl | hp
  · exact hr
  · exact h p hp
theorem RowsAt.nil (w : World) : RowsAt w [] := fun p hp => by cases hp
theorem RowsAt.at_ {w : World} {l : List (Nat × List Int)} (h : RowsAt w l) {g : Nat} {xs : List Int} (hm : (g, xs) ∈ l) : ElemsAt w (some ⟨g, 0, none⟩) xs := Row.elems (h (g, xs) hm)
end Go.Proofs.Ytaiffgkiliokfaa
