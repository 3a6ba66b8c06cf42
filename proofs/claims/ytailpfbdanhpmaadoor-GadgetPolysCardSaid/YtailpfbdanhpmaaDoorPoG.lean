/-
  The document's own sums and products of polynomials.
-/
import Derived.Test.YtailpfbdanhpmaaDoorPoF
namespace Go.Proofs.YtailpfbdanhpmaaDoor
open Go.RowKit F Flow
set_option linter.unusedVariables false
set_option linter.unusedSimpArgs false
attribute [local go_sem] eql_elem

/-- A list of such elements, wherever it lies. -/
def ROut (F : Nat → Int) (n : Nat) (w : World) (e : Ending) (w' : World) : Prop := ∃ A c, n ≤ c ∧ e = .returned (.slice A n c) ∧ Below w.heap.size w w' ∧ ElemsAt w' A (lst F n)
theorem cut_elems (A : Option Addr) (L c T : Nat) (hT : T ≤ c) : ∃ A', (∀ w' : World, (Instr.slice 22 (.slice A L c) none (some (.int .i64 (T : Int))) none).run Tryd.prog w' = .ok (.slice A' T c) w') ∧ ∀ (w : World) (F : Nat → Int) (n : Nat), T ≤ n → ElemsAt w A (lst F n) → ElemsAt w A' (lst F T) := by
  refine ⟨if c = 0 then A else A.map (·.add (0 * 2)), fun w' => ?_, fun w F n hn h => ?_⟩
  · rw [run_slice_h w' 22 A L c (by kernel_rfl) .i64 (T : Int) (by omega) (by omega), show (Tryd.prog).elem 22 = 28 by kernel_rfl, Tryd.sizeOf28]
    simp [Result.andThen, sliced]
  · have h2 := elems_take h hn
    split
    · exact h2
    · intro k hk
      obtain ⟨b, o, e, h0, h1⟩ := h2 k hk
      subst e
      exact ⟨b, o, by simp [Addr.add], h0, h1⟩
theorem ElemsAt.far2 {w : World} {g p i j o : Nat} {xs : List Int} {v u : Value} (h : ElemsAt w (some ⟨g, o, none⟩) xs) (hp : g ≠ p) : ElemsAt ((w.setCell ⟨p, i, none⟩ v).setCell ⟨p, j, none⟩ u) (some ⟨g, o, none⟩) xs := by
  intro k hk
  obtain ⟨b, o, e, h0, h1⟩ := h k hk
  cases e
  exact ⟨g, o, rfl, (World.cell?_setCell_other _ _ _ _ (fun e => by cases e; exact hp rfl)).trans ((World.cell?_setCell_other _ _ _ _ (fun e => by cases e; exact hp rfl)).trans h0), (World.cell?_setCell_other _ _ _ _ (fun e => by cases e; exact hp rfl)).trans ((World.cell?_setCell_other _ _ _ _ (fun e => by cases e; exact hp rfl)).trans h1)⟩
/-- Some of a list, as elements. -/
def rl (f : Int) (ls : List Int) (i : Nat) : Int := redu f (ls.getD i 0)
theorem rl_in (f : Int) (ls : List Int) (t : Nat) : 0 ≤ rl f ls t ∧ rl f ls t < M f := ⟨redu_nonneg _ _, redu_lt _ _⟩
theorem lst_succ (F : Nat → Int) (n : Nat) : lst F (n + 1) = lst F n ++ [F n] := by simp [lst, List.range_succ]
theorem owns_slc {w : World} {base n size : Nat} {e : TypeId} {v : Value} {xs : List Value} (h : w.ownsRow base e size v n xs) : ∃ a c, v = .slice a n c := by
  rcases h.2 with ⟨rfl, hn⟩ | ⟨g, cap, cur, rfl, _⟩
  · exact ⟨none, 0, by rw [hn]⟩
  · exact ⟨_, _, rfl⟩
theorem owns_offc {w : World} {base n size p o : Nat} {e : TypeId} {v u : Value} {xs : List Value} (h : w.ownsRow base e size v n xs) (hp : ∀ k, v.ownBlock = some k → k < p) : (w.setCell ⟨p, o, none⟩ u).ownsRow base e size v n xs := by
  refine ⟨h.1, ?_⟩
  rcases h.2 with hn | ⟨g, cap, cur, rfl, hbb, hgg, rest⟩
  · exact .inl hn
  · exact .inr ⟨g, cap, cur, rfl, hbb, store_far hgg (by have := hp g rfl; show g ≠ p; omega), rest⟩
/-- The same, and the list is new. -/
def SOut (F : Nat → Int) (n : Nat) (w : World) (e : Ending) (w' : World) : Prop := ∃ A c, n ≤ c ∧ e = .returned (.slice A n c) ∧ Below w.heap.size w w' ∧ ElemsAt w' A (lst F n) ∧ ∀ b o, A = some ⟨b, o, none⟩ → w.heap.size ≤ b
theorem owns_out {w : World} {base : Nat} {v : Value} {n : Nat} {F : Nat → Int} (h : w.ownsRow base 28 2 v n (ecells (lst F n))) : ∃ A c, v = .slice A n c ∧ n ≤ c ∧ ElemsAt w A (lst F n) ∧ ∀ b o, A = some ⟨b, o, none⟩ → base ≤ b := by
  obtain ⟨hl, ⟨h0, rfl⟩ | ⟨g, c, rfl, hnc, hBg, hE, hfz⟩⟩ := owns_elemsB h
  · subst h0
    exact ⟨none, 0, rfl, Nat.le_refl _, fun k hk => by rw [lst_length] at hk; omega, fun b o e => by cases e⟩
  · exact ⟨_, c, rfl, hnc, hE, fun b o e => by cases e; exact hBg⟩
end Go.Proofs.YtailpfbdanhpmaaDoor
