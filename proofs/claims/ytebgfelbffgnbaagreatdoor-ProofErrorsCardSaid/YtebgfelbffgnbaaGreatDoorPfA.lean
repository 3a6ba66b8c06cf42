
/-
  Wires: laid, with their seeds.
-/
import Derived.Test.YtebgfelbffgnbaaGreatDoorDB
import Derived.Deep.DeepCutAuto
import Derived.Deep.CutBlock
import Derived.Test.YtebgfelbffgnbaaGreatDoorBF
namespace Go.Proofs.YtebgfelbffgnbaaGreatDoor
open Go.RowKit Flow F
set_option linter.unusedVariables false
set_option linter.unusedSimpArgs false
attribute [local go_sem] eql_elem

/-- So many cells. -/
def gcells (F : Nat → Value) (n : Nat) : Array Value := ((List.range n).map F).toArray
theorem gcells_at (F : Nat → Value) {n k : Nat} (h : k < n) : (gcells F n)[k]? = some (F k) := by simp [gcells, h]
theorem gcells_set (F : Nat → Value) {n k : Nat} (v : Value) : (gcells F n).setIfInBounds k v = gcells (fun i => if i = k then v else F i) n := by
  apply Array.ext (by simp [gcells])
  intro i h1 h2
  simp only [gcells, Array.getElem_setIfInBounds]
  by_cases e : k = i
  · subst e; simp [Array.getElem_setIfInBounds]
  · have e2 : ¬ i = k := fun h => e h.symm
    simp [Array.getElem_setIfInBounds, e, e2]
theorem gcells_congr {F F' : Nat → Value} {n : Nat} (h : ∀ i, i < n → F i = F' i) : gcells F n = gcells F' n := by
  unfold gcells
  congr 1
  exact List.map_congr_left (fun i hi => h i (List.mem_range.1 hi))
theorem info_lists : (Tryz.prog.info? 25).map (fun i => (i.zero, i.size, i.bytes)) = some (some (.slice none 0 0), 1, 24) := by kernel_rfl
theorem made_nil (n : Nat) : madeCells (Value.slice none 0 0).cells (n * 1) = gcells (fun _ => .slice none 0 0) n := by
  refine Array.ext (by simp [madeCells, gcells]) (fun i h1 h2 => ?_)
  simp [madeCells, Value.cells, gcells, Nat.mod_one]
theorem make_lists (n : Nat) (hn : n ≤ 65536) (w : World) : (Instr.makeSlice 59 (.int .i64 (n : Int)) (.int .i64 (n : Int))).run Tryz.prog w = .ok (.slice (some ⟨w.heap.size, 0, none⟩) n n) (w.alloc (.cells (gcells (fun _ => .slice none 0 0) n) 25)) := by
  obtain ⟨i0, h0, h1, h2, h3⟩ := info_parts info_lists
  have hb : (i0.bytes : Int) * (n : Int) ≤ 281474976710656 := by rw [h3]; omega
  have hr := run_make (P := Tryz.prog) w 59 25 i0 _ Tryz.underlying59 h0 h1 .i64 .i64 n n (by omega) (by omega) hb (by omega)
  simp only [Int.toNat_natCast] at hr
  rw [hr, h2, made_nil]
/-- Wires, the first so many of which lie: where, how many places each has, what stands in them. -/
structure Wp (P G n D : Nat) (R : Nat → Nat) (V : Nat → Nat → Int) (m : Nat) (k : Int) (w : World) : Prop where
  p : w.heap[P]? = some (.cells #[.slice (some ⟨G, 0, none⟩) n n, .int .i64 k] 99 (0, 0))
  g : w.heap[G]? = some (.cells (gcells (fun i => if i < m then .slice (some ⟨R i, 0, none⟩) D D else .slice none 0 0) n) 25 (0, 0))
  r : ∀ i, i < m → Row w (R i) (lst (V i) D)
  inj : ∀ i j, i < m → j < m → R i = R j → i = j
section
variable {P G n D m : Nat} {R : Nat → Nat} {V : Nat → Nat → Int} {k : Int} {w : World}
theorem Wp.same (h : Wp P G n D R V m k w) {w' : World} (hk : ∀ b, (b = P ∨ b = G ∨ ∃ i, i < m ∧ b = R i) → w'.heap[b]? = w.heap[b]?) : Wp P G n D R V m k w' :=
  ⟨(hk P (.inl rfl)).trans h.p, (hk G (.inr (.inl rfl))).trans h.g, fun i hi => (hk (R i) (.inr (.inr ⟨i, hi, rfl⟩))).trans (h.r i hi), h.inj⟩
theorem Wp.lt (h : Wp P G n D R V m k w) {b : Nat} (hb : b = P ∨ b = G ∨ ∃ i, i < m ∧ b = R i) : b < w.heap.size := by
  rcases hb with rfl | rfl | ⟨i, hi, rfl⟩
  · exact lt_of_get h.p
  · exact lt_of_get h.g
  · exact lt_of_get (h.r i hi)
theorem Wp.up (h : Wp P G n D R V m k w) {w' : World} (hb : Below w.heap.size w w') : Wp P G n D R V m k w' := h.same (fun b hbb => hb.block b (h.lt hbb))
theorem Wp.pg (h : Wp P G n D R V m k w) : P ≠ G := fun e => by
  have h1 := h.p
  rw [e, h.g] at h1
  injection h1 with h1
  injection h1 with _ h2 _
  exact absurd h2 (by decide)
theorem Wp.rp (h : Wp P G n D R V m k w) {i : Nat} (hi : i < m) : R i ≠ P := fun e => by
  have h1 := h.p
  rw [← e, show w.heap[R i]? = _ from h.r i hi] at h1
  injection h1 with h1
  injection h1 with _ h2 _
  exact absurd h2 (by decide)
theorem Wp.rg (h : Wp P G n D R V m k w) {i : Nat} (hi : i < m) : R i ≠ G := fun e => by
  have h1 := h.g
  rw [← e, show w.heap[R i]? = _ from h.r i hi] at h1
  injection h1 with h1
  injection h1 with _ h2 _
  exact absurd h2 (by decide)
theorem Wp.cellP (h : Wp P G n D R V m k w) : w.cell? ⟨P, 0, none⟩ = some (.slice (some ⟨G, 0, none⟩) n n) ∧ w.cell? ⟨P, 1, none⟩ = some (.int .i64 k) ∧ w.frozen? ⟨P, 1, none⟩ = false := by
  have hp := h.p
  exact ⟨by simp [World.cell?, hp], by simp [World.cell?, hp], by simp [World.frozen?, hp]⟩
theorem Wp.cellG (h : Wp P G n D R V m k w) {i : Nat} (hi : i < m) (hn : i < n) : w.cell? ⟨G, i, none⟩ = some (.slice (some ⟨R i, 0, none⟩) D D) := by
  have hg := h.g
  simp only [World.cell?, hg]
  have := gcells_at (fun i => if i < m then Value.slice (some ⟨R i, 0, none⟩) D D else .slice none 0 0) hn
  simp only [hi, if_true] at this
  simpa using this
theorem Wp.freeG (h : Wp P G n D R V m k w) (i : Nat) : w.frozen? ⟨G, i, none⟩ = false := by simp [World.frozen?, h.g]
theorem Wp.congr (h : Wp P G n D R V m k w) {V' : Nat → Nat → Int} (hV : ∀ i t, i < m → t < D → V i t = V' i t) : Wp P G n D R V' m k w :=
  ⟨h.p, h.g, fun i hi => by
    have e : lst (V' i) D = lst (V i) D := lst_congr (fun t ht => (hV i t hi ht).symm)
    rw [e]
    exact h.r i hi, h.inj⟩
/-- One more wire. -/
theorem Wp.add (h : Wp P G n D R V m k w) {r : Nat} (hr : Row w r (lst (fun _ => 0) D)) (hn : ∀ i, i < m → R i ≠ r) (hpr : P ≠ r) (hgr : G ≠ r) (hV : ∀ t, V m t = 0) :
    Wp P G n D (fun i => if i = m then r else R i) V (m + 1) k (w.setCell ⟨G, m, none⟩ (.slice (some ⟨r, 0, none⟩) D D)) := by
  have hR : ∀ i, i < m → (fun i => if i = m then r else R i) i = R i := fun i hi => if_neg (by omega)
  refine ⟨store_far h.p h.pg, ?_, fun i hi => ?_, fun i j hi hj e => ?_⟩
  · rw [store1 h.g, gcells_set]
    congr 2
    refine gcells_congr (fun i hi => ?_)
    by_cases e : i = m
    · subst e; simp
    · simp only [if_neg e]
      by_cases e2 : i < m
      · rw [if_pos e2, if_pos (by omega)]
      · rw [if_neg e2, if_neg (by omega)]
  · by_cases e : i = m
    · subst e
      simp only [if_pos rfl, if_true]
      have e2 : lst (V i) D = lst (fun _ => 0) D := lst_congr (fun t _ => hV t)
      show Row _ r _
      rw [e2]
      exact store_far hr (fun e => hgr e.symm)
    · show Row _ (if i = m then r else R i) _
      rw [if_neg e]
      exact store_far (h.r i (by omega)) (h.rg (by omega))
  · have e : (if i = m then r else R i) = if j = m then r else R j := e
    by_cases e1 : i = m
    · by_cases e2 : j = m
      · omega
      · rw [if_pos e1, if_neg e2] at e
        exact absurd e.symm (hn j (by omega))
    · by_cases e2 : j = m
      · rw [if_neg e1, if_pos e2] at e
        exact absurd e (hn i (by omega))
      · rw [if_neg e1, if_neg e2] at e
        exact h.inj i j (by omega) (by omega) e
/-- A place of a wire. -/
theorem Wp.put (h : Wp P G n D R V m k w) {i t : Nat} (him : i < m) (ht : t < D) (z : Int) :
    Wp P G n D R (fun i' t' => if i' = i ∧ t' = t then z else V i' t') m k ((w.setCell ⟨R i, t * 2, none⟩ (.int .u64 (lo z))).setCell ⟨R i, t * 2 + 1, none⟩ (.int .u64 (hi z))) := by
  refine ⟨store2_farx h.p (h.rp him).symm, store2_farx h.g (h.rg him).symm, fun i' hi2 => ?_, h.inj⟩
  by_cases e : i' = i
  · subst e
    have h1 := (h.r i' hi2).set (k := t) (by rw [lst_length]; exact ht) z
    rw [lst_set] at h1
    have e2 : lst (fun t' => if i' = i' ∧ t' = t then z else V i' t') D = lst (fun p => if p = t then z else V i' p) D := lst_congr (fun q _ => by
      by_cases hq : q = t
      · rw [if_pos ⟨rfl, hq⟩, if_pos hq]
      · rw [if_neg (fun h => hq h.2), if_neg hq])
    show Row _ (R i') (lst (fun t' => if i' = i' ∧ t' = t then z else V i' t') D)
    rw [e2]
    exact h1
  · have e2 : lst (fun t' => if i' = i ∧ t' = t then z else V i' t') D = lst (V i') D := lst_congr (fun q _ => if_neg (fun h => e h.1))
    show Row _ (R i') (lst (fun t' => if i' = i ∧ t' = t then z else V i' t') D)
    rw [e2]
    exact (h.r i' hi2).far (fun e3 => e (h.inj _ _ hi2 him e3))
theorem Wp.calls (h : Wp P G n D R V m k w) (k' : Int) : Wp P G n D R V m k' (w.setCell ⟨P, 1, none⟩ (.int .i64 k')) :=
  ⟨(store1 h.p).trans rfl, store_far h.g h.pg.symm, fun i hi => store_far (h.r i hi) (h.rp hi), h.inj⟩
end
end Go.Proofs.YtebgfelbffgnbaaGreatDoor
