/-
  Rows of elements that a call made by append.
-/
import Derived.Test.YtailpfbdanhpmaaElemRow
import Derived.Test.YtailpfbdanhpmaaAppend
import Derived.Laws.AppendOwn
import Derived.OwnWalk
import Derived.Below
namespace Go.Proofs.Ytailpfbdanhpmaa
open Go.RowKit F Flow
set_option linter.unusedVariables false

theorem ecells_append : ∀ (xs ys : List Int), ecells (xs ++ ys) = ecells xs ++ ecells ys
  | [], _ => rfl
  | x :: xs, ys => by rw [List.cons_append, ecells, ecells_append xs ys]; rfl
theorem ownsn_up {w w' : World} {base size : Nat} {e : TypeId} {v : Value} {n : Nat} {xs : List Value} (h : w.ownsRow base e size v n xs) (hb : Below w.heap.size w w') : w'.ownsRow base e size v n xs := by
  refine ⟨h.1, ?_⟩
  rcases h.2 with hn | ⟨g, cap, cur, rfl, hbb, hgg, rest⟩
  · exact .inl hn
  · exact .inr ⟨g, cap, cur, rfl, hbb, keeps hb hgg, rest⟩
theorem grownn_below {w wr w' : World} {v : Value} {n size : Nat} {e : TypeId} {xs : List Value} {B : Nat} (hb : Below w.heap.size w wr) (hB : w.heap.size ≤ B) (hown : wr.ownsRow B e size v n xs) (hg : wr.grownBy w' v.ownBlock) : Below w.heap.size w w' :=
  hb.grown hg hb.size (fun k hk => Nat.le_trans hB (hown.lt k hk).1)
theorem owns_elemsB {w : World} {base : Nat} {v : Value} {n : Nat} {xs : List Int} (h : w.ownsRow base 35 2 v n (ecells xs)) : xs.length = n ∧ (n = 0 ∧ v = .slice none 0 0 ∨ ∃ g c, v = .slice (some ⟨g, 0, none⟩) n c ∧ n ≤ c ∧ base ≤ g ∧ ElemsAt w (some ⟨g, 0, none⟩) xs ∧ ∀ k, w.frozen? ⟨g, k, none⟩ = false) := by
  have hx : xs.length = n := by
    have := h.1
    rw [ecells_length] at this
    omega
  refine ⟨hx, ?_⟩
  rcases h.2 with ⟨rfl, h0⟩ | ⟨g, cap, cur, rfl, hbg, hgg, hnc, _⟩
  · exact .inl ⟨h0, rfl⟩
  · refine .inr ⟨g, cap, rfl, hnc, hbg, fun k hk => ⟨g, 0, rfl, ?_, ?_⟩, fun k => by simp [World.frozen?, hgg]⟩
    · have := h.cells (g := g) rfl (k * 2) _ (ecells_lo xs k hk)
      rw [show (Addr.add ⟨g, 0, none⟩ (k * 2)) = ⟨g, 0 + k * 2, none⟩ by unfold Addr.add; split <;> simp_all] at this
      exact this
    · have := h.cells (g := g) rfl (k * 2 + 1) _ (ecells_hi xs k hk)
      rw [show (Addr.add ⟨g, 0, none⟩ (k * 2 + 1)) = ⟨g, 0 + k * 2 + 1, none⟩ by unfold Addr.add; split <;> simp_all] at this
      exact this
theorem info_elemv : (Try.prog.info? 35).map (fun i => (i.zero, i.size, i.bytes)) = some (some (.agg #[.int .u64 0, .int .u64 0]), 2, 16) := by kernel_rfl
theorem news_elem2 {W : World} {u v : Value} {t : TypeId} {p : Nat} (hp : p = W.heap.size) : ∀ (j : Nat) (z : Value), [u, v][j]? = some z → (W.alloc (.cells #[u, v] t)).cell? (Addr.add ⟨p, 0, none⟩ j) = some z := by
  subst hp
  intro j z h
  match j with
  | 0 => simp at h; subst h; simp [Addr.add]
  | 1 => simp at h; subst h; simp [Addr.add]
  | j + 2 => simp at h
/-- An element of such a row, stored anew. -/
theorem ElemsAt.put {w : World} {g k : Nat} {xs : List Int} (h : ElemsAt w (some ⟨g, 0, none⟩) xs) (hk : k < xs.length) (z : Int) :
    ElemsAt ((w.setCell ⟨g, k * 2, none⟩ (.int .u64 (lo z))).setCell ⟨g, k * 2 + 1, none⟩ (.int .u64 (hi z))) (some ⟨g, 0, none⟩) (xs.set k z) := by
  have hcell : ∀ (w : World) (o o' : Nat) (v u : Value), w.cell? ⟨g, o, none⟩ = some u → (w.setCell ⟨g, o', none⟩ v).cell? ⟨g, o, none⟩ = some (if o = o' then v else u) := by
    intro w o o' v u hu
    by_cases e : o = o'
    · subst e
      rw [if_pos rfl]
      exact World.cell?_setCell_same _ _ _ hu
    · have hne : (⟨g, o', none⟩ : Addr) ≠ ⟨g, o, none⟩ := fun h => by cases h; exact e rfl
      rw [if_neg e, World.cell?_setCell_other _ _ _ _ hne]
      exact hu
  intro j hj
  rw [List.length_set] at hj
  obtain ⟨b, o, e, h0, h1⟩ := h j hj
  cases e
  rw [Nat.zero_add] at h0 h1
  refine ⟨g, 0, rfl, ?_, ?_⟩
  · rw [Nat.zero_add, hcell _ _ _ _ _ (hcell _ _ _ _ _ h0)]
    by_cases e : j = k
    · subst e
      rw [if_neg (by omega), if_pos rfl]
      simp [hk]
    · rw [if_neg (by omega), if_neg (by omega)]
      simp [Ne.symm e]
  · rw [Nat.zero_add, hcell _ _ _ _ _ (hcell _ _ _ _ _ h1)]
    by_cases e : j = k
    · subst e
      rw [if_pos rfl]
      simp [hk]
    · rw [if_neg (by omega), if_neg (by omega)]
      simp [Ne.symm e]
end Go.Proofs.Ytailpfbdanhpmaa
