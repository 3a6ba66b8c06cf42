import Derived.Test.YtfklkplnbmhddaaDoorBB
import Derived.Test.YtfklkplnbmhddaaDoorBC
import Derived.Test.YtfklkplnbmhddaaDoorBA
import Derived.Test.YtfklkplnbmhddaaDoorRows
import Derived.Laws.AppendOwn
import Derived.Laws.BytesArg
import Derived.OwnWalk
import Derived.Below
/-
  Contracts of package field: each of the two fields' sums, products, roots.
-/
namespace Go.Proofs.YtfklkplnbmhddaaDoor
open Go.RowKit F Flow
set_option linter.unusedVariables false
attribute [local go_sem] eql_elem

theorem redu_lo1 (a : Int) : redu 1 (lo a) = redu 1 a := by unfold redu; rw [if_pos rfl, if_pos rfl, lo_lo]
theorem add_lo1 (a b : Int) : add 1 (lo a) (lo b) = add 1 a b := by unfold add; rw [redu_lo1, redu_lo1]
theorem sub_lo1 (a b : Int) : sub 1 (lo a) (lo b) = sub 1 a b := by unfold sub; rw [redu_lo1, redu_lo1]
theorem mul_lo1 (a b : Int) : mul 1 (lo a) (lo b) = mul 1 a b := by unfold mul; rw [redu_lo1, redu_lo1]
theorem neg_lo1 (a : Int) : neg 1 (lo a) = neg 1 a := by unfold neg; rw [redu_lo1]
theorem pow_lo1 (a : Int) (n : Nat) : pow 1 (lo a) n = pow 1 a n := by unfold pow; rw [redu_lo1]
end Go.Proofs.YtfklkplnbmhddaaDoor

/-
  Contracts of package field: the rest of one element's.
-/
namespace Go.Proofs.YtfklkplnbmhddaaDoor
open Go.RowKit F Flow
set_option linter.unusedVariables false
attribute [local go_sem] eql_elem

theorem fsize_one (w : World) : Calls Tryd.prog 21 #[.int .u8 1] w fun e w' => e = .returned (.int .i64 8) ∧ Below w.heap.size w w' := by
  go_enter Tryd.func21, Tryd.ntmps21
  go_wp2
  go_ret
  exact ⟨rfl, Below.refl _ _⟩
theorem fsize_two (w : World) : Calls Tryd.prog 21 #[.int .u8 2] w fun e w' => e = .returned (.int .i64 16) ∧ Below w.heap.size w w' := by
  go_enter Tryd.func21, Tryd.ntmps21
  go_wp2
  go_ret
  exact ⟨rfl, Below.refl _ _⟩
theorem fvalid_one (w : World) : Calls Tryd.prog 34 #[.int .u8 1] w fun e w' => e = .returned (.bool true) ∧ Below w.heap.size w w' := by
  go_enter Tryd.func34, Tryd.ntmps34
  go_wp2
  go_ret
  exact ⟨rfl, Below.refl _ _⟩
theorem fvalid_two (w : World) : Calls Tryd.prog 34 #[.int .u8 2] w fun e w' => e = .returned (.bool true) ∧ Below w.heap.size w w' := by
  go_enter Tryd.func34, Tryd.ntmps34
  go_wp2
  go_ret
  exact ⟨rfl, Below.refl _ _⟩
theorem F_even (n : Int) (h : n % 2 = 0) (n0 : 0 ≤ n) (n1 : n ≤ 255) (w : World) : Calls Tryd.prog 15 #[.int .u8 n] w fun e w' => e = .returned (.int .u8 1) ∧ Below w.heap.size w w' := by
  go_enter Tryd.func15, Tryd.ntmps15
  go_wp2
  go_ret
  exact ⟨rfl, Below.refl _ _⟩
theorem F_odd (n : Int) (h : n % 2 = 1) (n0 : 0 ≤ n) (n1 : n ≤ 255) (w : World) : Calls Tryd.prog 15 #[.int .u8 n] w fun e w' => e = .returned (.int .u8 2) ∧ Below w.heap.size w w' := by
  go_enter Tryd.func15, Tryd.ntmps15
  go_wp2
  go_ret
  exact ⟨rfl, Below.refl _ _⟩
end Go.Proofs.YtfklkplnbmhddaaDoor

/-
  Contracts of package field: the first law's example.
-/
namespace Go.Proofs.YtfklkplnbmhddaaDoor
open Go.RowKit F Flow
set_option linter.unusedVariables false
attribute [local go_sem] eql_elem

theorem four {W : World} {ι : Type} {φ : ι → World} (h : Family W ι φ) {b : Nat} {u0 u1 u2 u3 : Value} {t : TypeId} (hk : W.heap[b]? = some (.cells #[u0, u1, u2, u3] t (0, 0))) :
    (∀ i, (φ i).cell? ⟨b, 0, none⟩ = some u0) ∧ (∀ i, (φ i).cell? ⟨b, 1, none⟩ = some u1) ∧ (∀ i, (φ i).cell? ⟨b, 2, none⟩ = some u2) ∧ (∀ i, (φ i).cell? ⟨b, 3, none⟩ = some u3) :=
  ⟨fun i => (blk4 (keeps (h.old i) hk)).1, fun i => (blk4 (keeps (h.old i) hk)).2.1, fun i => (blk4 (keeps (h.old i) hk)).2.2.1, fun i => (blk4 (keeps (h.old i) hk)).2.2.2.1⟩

end Go.Proofs.YtfklkplnbmhddaaDoor

/-
  Rows of bytes that a call made: kept by what makes new memory alone; read as a string.
-/
namespace Go.Proofs.YtfklkplnbmhddaaDoor
open Go.RowKit Flow

theorem ownsRow_cell {w : World} {base g n cap : Nat} {e : TypeId} {xs : List Int} (h : w.ownsRow base e 1 (.slice (some ⟨g, 0, none⟩) n cap) n (xs.map (.int .u8))) :
    ∀ i, i < n → w.cell? ⟨g, 0 + i, none⟩ = some (.int .u8 (xs.getD i 0)) := by
  intro i hi
  have hx : xs.length = n := by simpa using h.1
  have := h.cells (g := g) rfl i (.int .u8 (xs.getD i 0)) (by simp [hx, hi])
  rw [Nat.zero_add]
  rw [show (Addr.add ⟨g, 0, none⟩ i) = ⟨g, i, none⟩ by unfold Addr.add; split <;> simp_all] at this
  exact this
/-- A row of bytes that a call made reads as a string. -/
theorem ownsRow_string {P : Program} {w : World} {base n : Nat} {e : TypeId} {v : Value} {xs : List Int} (h : w.ownsRow base e 1 v n (xs.map (.int .u8)))
    (src e' dst : TypeId) (hs : P.underlying src = some (.slice e')) (he : P.underlying e' = some (.int .u8)) (hd : P.underlying dst = some .string) :
    (convert src dst v).run P w = .ok (.string (strOfNums xs)) w := by
  have hx : xs.length = n := by simpa using h.1
  rcases h.2 with ⟨rfl, hn⟩ | ⟨g, cap, cur, rfl, _⟩
  · have : xs = [] := by apply List.eq_nil_of_length_eq_zero; omega
    subst this
    exact run_convert_bytes_nil w src e' hs he 0 0 dst hd
  · exact run_convert_bytes_arg w src e' hs he g 0 n cap xs hx (ownsRow_cell h) dst hd
/-- What lies as a string still does where there is new memory beside it. -/
def StrAt (w : World) (v : Value) (s : ByteArray) : Prop :=
  ∃ p n c xs, v = .slice p n c ∧ s = strOfNums xs ∧ xs.length = n ∧ (n = 0 ∧ p = none ∨ ∃ b o, p = some ⟨b, o, none⟩ ∧ ∀ i, i < n → w.cell? ⟨b, o + i, none⟩ = some (.int .u8 (xs.getD i 0)))
theorem StrAt.up {w w' : World} {v : Value} {s : ByteArray} (h : StrAt w v s) (hb : Below w.heap.size w w') : StrAt w' v s := by
  obtain ⟨p, n, c, xs, h1, h2, h3, h4⟩ := h
  refine ⟨p, n, c, xs, h1, h2, h3, h4.imp id ?_⟩
  rintro ⟨b, o, h5, h6⟩
  exact ⟨b, o, h5, fun i hi => (hb.cell (World.block_lt_of_cell? _ _ (h6 i hi))).trans (h6 i hi)⟩
theorem StrAt.conv {P : Program} {w : World} {v : Value} {s : ByteArray} (h : StrAt w v s) {src e dst : TypeId} (hs : P.underlying src = some (.slice e)) (he : P.underlying e = some (.int .u8)) (hd : P.underlying dst = some .string) :
    (convert src dst v).run P w = .ok (.string s) w := by
  obtain ⟨p, n, c, xs, rfl, rfl, h3, ⟨h4, rfl⟩ | ⟨b, o, rfl, h6⟩⟩ := h
  · obtain rfl : xs = [] := List.eq_nil_of_length_eq_zero (by omega)
    exact run_convert_bytes_nil w src e hs he n c dst hd
  · exact run_convert_bytes_arg w src e hs he b o n c xs h3 h6 dst hd
theorem ownsRow_strAt {w : World} {base n : Nat} {e : TypeId} {v : Value} {xs : List Int} (h : w.ownsRow base e 1 v n (xs.map (.int .u8))) : StrAt w v (strOfNums xs) := by
  have hx : xs.length = n := by simpa using h.1
  rcases h.2 with ⟨rfl, hn⟩ | ⟨g, cap, cur, rfl, _⟩
  · subst hn; exact ⟨none, 0, 0, xs, rfl, rfl, hx, .inl ⟨rfl, rfl⟩⟩
  · exact ⟨_, n, cap, xs, rfl, rfl, hx, .inr ⟨g, 0, rfl, ownsRow_cell h⟩⟩
theorem strOfNums_congr {a b : List Int} (h : a = b) : strOfNums a = strOfNums b := by rw [h]
end Go.Proofs.YtfklkplnbmhddaaDoor
