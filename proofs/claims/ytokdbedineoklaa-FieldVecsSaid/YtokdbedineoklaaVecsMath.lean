/-
  Rows that a call made: elements, bytes; a list's bytes, place by place.
-/
import Derived.Test.YtokdbedineoklaaTakeVec
namespace Go.Proofs.Ytokdbedineoklaa
open Go.RowKit F Flow
set_option linter.unusedVariables false

theorem ecells_append : ∀ (xs ys : List Int), ecells (xs ++ ys) = ecells xs ++ ecells ys
  | [], _ => rfl
  | x :: xs, ys => by rw [List.cons_append, ecells, ecells_append xs ys]; rfl
theorem ownsn_up {w w' : World} {base size : Nat} {e : TypeId} {v : Value} {n : Nat} {xs : List Value} (h : w.ownsRow base e size v n xs) (hb : Below w.heap.size w w') : w'.ownsRow base e size v n xs := by
  refine ⟨h.1, ?_⟩
  rcases h.2 with hn | ⟨g, cap, cur, rfl, hbb, hgg, rest⟩
  · exact .inl hn
  · exact .inr ⟨g, cap, cur, rfl, hbb, keeps hb hgg, rest⟩
theorem grownn_below {w wr w' : World} {v : Value} {n size : Nat} {e : TypeId} {xs : List Value} {B : Nat} (hb : Below w.heap.size w wr) (hB : w.heap.size ≤ B) (hown : wr.ownsRow B e size v n xs) (hg : wr.grownBy w' v.ownBlock) : Below w.heap.size w w' :=
  hb.grown hg hb.size (fun k hk => Nat.le_trans hB (hown.lt k hk).1)
theorem owns_elems {w : World} {base : Nat} {v : Value} {n : Nat} {xs : List Int} (h : w.ownsRow base 24 2 v n (ecells xs)) : xs.length = n ∧ ∃ A c, v = .slice A n c ∧ ElemsAt w A xs := by
  have hx : xs.length = n := by
    have := h.1
    rw [ecells_length] at this
    omega
  refine ⟨hx, ?_⟩
  rcases h.2 with ⟨rfl, h0⟩ | ⟨g, cap, cur, rfl, _⟩
  · rw [h0]
    exact ⟨none, 0, rfl, fun k hk => by omega⟩
  · refine ⟨_, cap, rfl, fun k hk => ⟨g, 0, rfl, ?_, ?_⟩⟩
    · have := h.cells (g := g) rfl (k * 2) _ (ecells_lo xs k hk)
      rw [show (Addr.add ⟨g, 0, none⟩ (k * 2)) = ⟨g, 0 + k * 2, none⟩ by unfold Addr.add; split <;> simp_all] at this
      exact this
    · have := h.cells (g := g) rfl (k * 2 + 1) _ (ecells_hi xs k hk)
      rw [show (Addr.add ⟨g, 0, none⟩ (k * 2 + 1)) = ⟨g, 0 + k * 2 + 1, none⟩ by unfold Addr.add; split <;> simp_all] at this
      exact this
theorem owns_bytes {w : World} {base : Nat} {v : Value} {n : Nat} {ys : List Int} (h : w.ownsRow base 5 1 v n (ys.map (.int .u8))) : ys.length = n ∧ ∃ A c, v = .slice A n c ∧ n ≤ c ∧ BytesAt w A ys := by
  have hx : ys.length = n := by simpa using h.1
  refine ⟨hx, ?_⟩
  rcases h.2 with ⟨rfl, h0⟩ | ⟨g, cap, cur, rfl, _, _, hc, _⟩
  · rw [h0]
    exact ⟨none, 0, rfl, Nat.le_refl _, fun k hk => by omega⟩
  · exact ⟨_, cap, rfl, hc, fun k hk => ⟨g, 0, rfl, ownsRow_cell h k (by omega)⟩⟩
theorem chunk_vbytes (f : Int) (N : Nat) (hf : ∀ x, 0 ≤ redu f x ∧ redu f x < 256 ^ N) : ∀ (xs : List Int) (i : Nat), i < xs.length → chunk N (vbytes f N xs) i = redu f (xs.getD i 0)
  | x :: xs, 0, _ => by
    unfold chunk vbytes
    rw [Nat.zero_mul, List.drop_zero, List.map_cons, List.flatten_cons, List.take_left' (loBytes_length _ _)]
    exact loVal_loBytes N _ (hf x).1 (hf x).2
  | x :: xs, i + 1, h => by
    have ih := chunk_vbytes f N hf xs i (by simpa using h)
    unfold chunk vbytes at *
    rw [List.map_cons, List.flatten_cons, Nat.succ_mul, Nat.add_comm, ← List.drop_drop, List.drop_left' (loBytes_length _ _), ih]
    simp
theorem chunks_vbytes (f : Int) (N : Nat) (hf : ∀ x, 0 ≤ redu f x ∧ redu f x < 256 ^ N) (xs : List Int) : chunks N (vbytes f N xs) xs.length = xs.map (redu f) := by
  apply List.ext_getElem
  · simp [chunks]
  · intro i h1 h2
    have hi : i < xs.length := by simpa using h2
    have := chunk_vbytes f N hf xs i hi
    simp [chunks, this, hi]
theorem vbytes_ok (f : Int) (N : Nat) (xs : List Int) : BytesOK (vbytes f N xs) := by
  intro y hy
  unfold vbytes at hy
  obtain ⟨l, hl, hyl⟩ := List.mem_flatten.1 hy
  obtain ⟨x, _, rfl⟩ := List.mem_map.1 hl
  exact loBytes_ok N _ y hyl
theorem redu_fit1 (x : Int) : 0 ≤ redu 1 x ∧ redu 1 x < 256 ^ 8 := ⟨redu_nonneg 1 x, Int.lt_of_lt_of_le (redu_lt 1 x) (by decide)⟩
theorem redu_fit2 (x : Int) : 0 ≤ redu 2 x ∧ redu 2 x < 256 ^ 16 := ⟨redu_nonneg 2 x, Int.lt_of_lt_of_le (redu_lt 2 x) (by decide)⟩
end Go.Proofs.Ytokdbedineoklaa
