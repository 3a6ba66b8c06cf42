/-
  A block of elements that a call made: its cells, a store into it, a new one.
-/
import Derived.Test.YtnlnbikiocdpdaaDoorFieldSum
import Derived.Laws.MakeOwn
import Derived.Laws.Entries
namespace Go.Proofs.YtnlnbikiocdpdaaDoor
open Go.RowKit F Flow

/-- Elements as cells. -/
def ecells : List Int → List Value
  | [] => []
  | x :: xs => .int .u64 (lo x) :: .int .u64 (hi x) :: ecells xs
theorem ecells_length : ∀ xs, (ecells xs).length = xs.length * 2
  | [] => rfl
  | x :: xs => by simp [ecells, ecells_length xs]; omega
theorem ecells_lo : ∀ (xs : List Int) (k : Nat), k < xs.length → (ecells xs)[k * 2]? = some (.int .u64 (lo (xs.getD k 0)))
  | x :: xs, 0, _ => rfl
  | x :: xs, k + 1, h => by
    have := ecells_lo xs k (by simpa using h)
    rw [show (k + 1) * 2 = k * 2 + 1 + 1 by omega]
    simpa [ecells] using this
theorem ecells_hi : ∀ (xs : List Int) (k : Nat), k < xs.length → (ecells xs)[k * 2 + 1]? = some (.int .u64 (hi (xs.getD k 0)))
  | x :: xs, 0, _ => rfl
  | x :: xs, k + 1, h => by
    have := ecells_hi xs k (by simpa using h)
    rw [show (k + 1) * 2 + 1 = k * 2 + 1 + 1 + 1 by omega]
    simpa [ecells] using this
theorem ecells_set : ∀ (xs : List Int) (k : Nat) (z : Int), k < xs.length → ((ecells xs).set (k * 2) (.int .u64 (lo z))).set (k * 2 + 1) (.int .u64 (hi z)) = ecells (xs.set k z)
  | x :: xs, 0, z, _ => rfl
  | x :: xs, k + 1, z, h => by
    have := ecells_set xs k z (by simpa using h)
    rw [show (k + 1) * 2 = k * 2 + 1 + 1 by omega, show k * 2 + 1 + 1 + 1 = (k * 2 + 1) + 1 + 1 by omega]
    simpa [ecells] using this
theorem ecells_zero : ∀ n, ecells (List.replicate n 0) = List.replicate (n * 2) (Value.int .u64 0)
  | 0 => rfl
  | n + 1 => by rw [List.replicate_succ, ecells, ecells_zero n, show (n + 1) * 2 = n * 2 + 1 + 1 by omega, List.replicate_succ, List.replicate_succ]; rfl
theorem made_zero (n : Nat) : madeCells (Value.agg #[Value.int .u64 0, Value.int .u64 0]).cells (n * 2) = (ecells (List.replicate n 0)).toArray := by
  rw [ecells_zero]
  refine Array.ext (by simp [madeCells]) (fun i h1 h2 => ?_)
  rcases Nat.mod_two_eq_zero_or_one i with h | h <;> simp [madeCells, Value.cells, h]

/-- A block that holds just these elements. -/
def Row (w : World) (g : Nat) (xs : List Int) : Prop := w.heap[g]? = some (.cells (ecells xs).toArray 34 (0, 0))
theorem Row.up {w w' : World} {g : Nat} {xs : List Int} (h : Row w g xs) (hb : Below w.heap.size w w') : Row w' g xs := keeps hb h
theorem Row.alloc {w : World} {g : Nat} {xs : List Int} (h : Row w g xs) (o : Obj) : Row (w.alloc o) g xs := alloc_keeps h
theorem Row.lo {w : World} {g k : Nat} {xs : List Int} (h : Row w g xs) (hk : k < xs.length) : w.cell? ⟨g, k * 2, none⟩ = some (.int .u64 (F.lo (xs.getD k 0))) := by
  unfold Row at h
  simp only [World.cell?, h]
  simpa using ecells_lo xs k hk
theorem Row.hi {w : World} {g k : Nat} {xs : List Int} (h : Row w g xs) (hk : k < xs.length) : w.cell? ⟨g, k * 2 + 1, none⟩ = some (.int .u64 (F.hi (xs.getD k 0))) := by
  unfold Row at h
  simp only [World.cell?, h]
  simpa using ecells_hi xs k hk
theorem Row.free {w : World} {g : Nat} {xs : List Int} (h : Row w g xs) (k : Nat) : w.frozen? ⟨g, k, none⟩ = false := by
  unfold Row at h
  simp [World.frozen?, h]
theorem Row.far {w : World} {g c : Nat} {xs : List Int} {u v : Value} {i j : Nat} (h : Row w g xs) (hgc : g ≠ c) : Row ((w.setCell ⟨c, i, none⟩ u).setCell ⟨c, j, none⟩ v) g xs := store_far (store_far h hgc) hgc
theorem Row.set {w : World} {g k : Nat} {xs : List Int} (h : Row w g xs) (hk : k < xs.length) (z : Int) : Row ((w.setCell ⟨g, k * 2, none⟩ (.int .u64 (F.lo z))).setCell ⟨g, k * 2 + 1, none⟩ (.int .u64 (F.hi z))) g (xs.set k z) := by
  have := store1 (store1 h (o := k * 2) (v := .int .u64 (F.lo z))) (o := k * 2 + 1) (v := .int .u64 (F.hi z))
  unfold Row
  rw [this, ← ecells_set xs k z hk]
  simp
theorem Row.elems {w : World} {g : Nat} {xs : List Int} (h : Row w g xs) : ElemsAt w (some ⟨g, 0, none⟩) xs := fun k hk =>
  ⟨g, 0, rfl, by rw [Nat.zero_add]; exact h.lo hk, by rw [Nat.zero_add]; exact h.hi hk⟩
theorem Holds.far' {w : World} {b c : Nat} {x : Int} {u v : Value} {i j : Nat} (h : Holds w b x) (hbc : b ≠ c) : Holds ((w.setCell ⟨c, i, none⟩ u).setCell ⟨c, j, none⟩ v) b x := store_far (store_far h hbc) hbc

theorem info_elem : (Tryd.prog.info? 34).map (fun i => (i.zero, i.size, i.bytes)) = some (some (.agg #[.int .u64 0, .int .u64 0]), 2, 16) := by kernel_rfl
theorem make_elems (n : Nat) (hn : n ≤ 65536) (w : World) : (Instr.makeSlice 22 (.int .i64 (n : Int)) (.int .i64 (n : Int))).run Tryd.prog w = .ok (.slice (some ⟨w.heap.size, 0, none⟩) n n) (w.alloc (.cells (ecells (List.replicate n 0)).toArray 34)) := by
  obtain ⟨i0, h0, h1, h2, h3⟩ := info_parts info_elem
  have hb : (i0.bytes : Int) * (n : Int) ≤ 281474976710656 := by rw [h3]; omega
  have hr := run_make (P := Tryd.prog) w 22 34 i0 _ Tryd.underlying22 h0 h1 .i64 .i64 n n (by omega) (by omega) hb (by omega)
  simp only [Int.toNat_natCast] at hr
  rw [hr, h2]
  rw [made_zero]
theorem set_take {xs : List Int} {n k : Nat} {z : Int} (hk : k < n) (hx : xs.length = n) (hz : xs.getD k 0 = z) : (xs.take k ++ List.replicate (n - k) 0).set k z = xs.take (k + 1) ++ List.replicate (n - (k + 1)) 0 := by
  subst hx
  rw [List.set_append_right _ _ (by simp; omega)]
  have e : k - (xs.take k).length = 0 := by simp; omega
  rw [e, show xs.length - k = (xs.length - (k + 1)) + 1 by omega, List.replicate_succ, List.set_cons_zero, List.take_succ_eq_append_getElem hk, List.append_assoc]
  have : xs[k] = z := by rw [← hz]; simp [hk]
  rw [this]
  rfl
end Go.Proofs.YtnlnbikiocdpdaaDoor
