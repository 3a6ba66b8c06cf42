/-
  Rows of bytes that a call made: kept by what makes new memory alone; read as a string.
-/
import Derived.Test.YtmnnfecipkdgfaaDoorFlow
import Derived.Test.YtmnnfecipkdgfaaDoorRows
import Derived.Laws.AppendOwn
import Derived.Laws.BytesArg
import Derived.OwnWalk
import Derived.Below
namespace Go.Proofs.YtmnnfecipkdgfaaDoor
open Go.RowKit Flow

theorem ownsRow_cell {w : World} {base g n cap : Nat} {e : TypeId} {xs : List Int} (h : w.ownsRow base e 1 (.slice (some ⟨g, 0, none⟩) n cap) n (xs.map (.int .u8))) :
    ∀ i, i < n → w.cell? ⟨g, 0 + i, none⟩ = some (.int .u8 (xs.getD i 0)) := by
  intro i hi
  have hx : xs.length = n := by simpa using h.1
  have := h.cells (g := g) rfl i (.int .u8 (xs.getD i 0)) (by simp [hx, hi])
  rw [Nat.zero_add]
  rw [show (Addr.add ⟨g, 0, none⟩ i) = ⟨g, i, none⟩ by unfold Addr.add; split <;> simp_all] at this
  exact this
/-- A row of bytes that a call made reads as a string. -/
theorem ownsRow_string {P : Program} {w : World} {base n : Nat} {e : TypeId} {v : Value} {xs : List Int} (h : w.ownsRow base e 1 v n (xs.map (.int .u8)))
    (src e' dst : TypeId) (hs : P.underlying src = some (.slice e')) (he : P.underlying e' = some (.int .u8)) (hd : P.underlying dst = some .string) :
    (convert src dst v).run P w = .ok (.string (strOfNums xs)) w := by
  have hx : xs.length = n := by simpa using h.1
  rcases h.2 with ⟨rfl, hn⟩ | ⟨g, cap, cur, rfl, _⟩
  · have : xs = [] := by apply List.eq_nil_of_length_eq_zero; omega
    subst this
    exact run_convert_bytes_nil w src e' hs he 0 0 dst hd
  · exact run_convert_bytes_arg w src e' hs he g 0 n cap xs hx (ownsRow_cell h) dst hd
/-- What lies as a string still does where there is new memory beside it. -/
def StrAt (w : World) (v : Value) (s : ByteArray) : Prop :=
  ∃ p n c xs, v = .slice p n c ∧ s = strOfNums xs ∧ xs.length = n ∧ (n = 0 ∧ p = none ∨ ∃ b o, p = some ⟨b, o, none⟩ ∧ ∀ i, i < n → w.cell? ⟨b, o + i, none⟩ = some (.int .u8 (xs.getD i 0)))
theorem StrAt.up {w w' : World} {v : Value} {s : ByteArray} (h : StrAt w v s) (hb : Below w.heap.size w w') : StrAt w' v s := by
  obtain ⟨p, n, c, xs, h1, h2, h3, h4⟩ := h
  refine ⟨p, n, c, xs, h1, h2, h3, h4.imp id ?_⟩
  rintro ⟨b, o, h5, h6⟩
  exact ⟨b, o, h5, fun i hi => (hb.cell (World.block_lt_of_cell? _ _ (h6 i hi))).trans (h6 i hi)⟩
theorem StrAt.conv {P : Program} {w : World} {v : Value} {s : ByteArray} (h : StrAt w v s) {src e dst : TypeId} (hs : P.underlying src = some (.slice e)) (he : P.underlying e = some (.int .u8)) (hd : P.underlying dst = some .string) :
    (convert src dst v).run P w = .ok (.string s) w := by
  obtain ⟨p, n, c, xs, rfl, rfl, h3, ⟨h4, rfl⟩ | ⟨b, o, rfl, h6⟩⟩ := h
  · obtain rfl : xs = [] := List.eq_nil_of_length_eq_zero (by omega)
    exact run_convert_bytes_nil w src e hs he n c dst hd
  · exact run_convert_bytes_arg w src e hs he b o n c xs h3 h6 dst hd
theorem ownsRow_strAt {w : World} {base n : Nat} {e : TypeId} {v : Value} {xs : List Int} (h : w.ownsRow base e 1 v n (xs.map (.int .u8))) : StrAt w v (strOfNums xs) := by
  have hx : xs.length = n := by simpa using h.1
  rcases h.2 with ⟨rfl, hn⟩ | ⟨g, cap, cur, rfl, _⟩
  · subst hn; exact ⟨none, 0, 0, xs, rfl, rfl, hx, .inl ⟨rfl, rfl⟩⟩
  · exact ⟨_, n, cap, xs, rfl, rfl, hx, .inr ⟨g, 0, rfl, ownsRow_cell h⟩⟩
theorem strOfNums_congr {a b : List Int} (h : a = b) : strOfNums a = strOfNums b := by rw [h]
end Go.Proofs.YtmnnfecipkdgfaaDoor
