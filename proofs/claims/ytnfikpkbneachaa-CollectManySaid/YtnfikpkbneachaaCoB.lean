/-
  Windows that are wanted: one more, or not; how many wait.
-/
import Derived.Test.YtnfikpkbneachaaCoA
import Derived.Test.YtnfikpkbneachaaAppZ
namespace Go.Proofs.Ytnfikpkbneachaa
open Go.RowKit Flow
set_option linter.unusedVariables false
set_option linter.unusedSimpArgs false

def nums (l : List Nat) : List Value := l.map fun (n : Nat) => Value.int .u64 ((n : Nat) : Int)
theorem nums_one {l : List Nat} : ∀ u ∈ nums l, u.oneCell' = true := fun u hu => by
  unfold nums at hu
  obtain ⟨x, _, rfl⟩ := List.mem_map.1 hu
  rfl
/-- A collector that has nothing under way: which windows it wants. -/
structure Coll (q : Nat) (v : Value) (n : Int) (l : List Nat) (w : World) : Prop where
  at' : w.heap[q]? = some (.cells (coll v none n).toArray 56 (0, 0))
  row : w.ownsRow (q + 1) 22 1 v l.length (nums l)
theorem Coll.up {q : Nat} {v : Value} {n : Int} {l : List Nat} {w w' : World} (h : Coll q v n l w) (hb : Below w.heap.size w w') : Coll q v n l w' :=
  ⟨keeps hb h.at', h.row.kept (row := none) ⟨hb.os, hb.tape, hb.output, hb.size, fun k hk _ => hb.block k hk⟩ (by
    cases hv : v.ownBlock with
    | none => exact .inl rfl
    | some g => exact .inr (by simp))⟩
theorem coll_cells {q : Nat} {v : Value} {now : Option Addr} {n : Int} {w : World} {t : TypeId} (h : w.heap[q]? = some (.cells (coll v now n).toArray t (0, 0))) :
    w.cell? ⟨q, 8, none⟩ = some v ∧ w.cell? ⟨q, 9, none⟩ = some (.pointer now) ∧ w.cell? ⟨q, 10, none⟩ = some (.int .u64 n) ∧ w.frozen? ⟨q, 8, none⟩ = false ∧ w.frozen? ⟨q, 9, none⟩ = false ∧ w.frozen? ⟨q, 10, none⟩ = false := by
  have g := At0.of_block h
  have a := g 8 v rfl
  have b := g 9 (.pointer now) rfl
  have c := g 10 (.int .u64 n) rfl
  simp only [Nat.zero_add] at a b c
  refine ⟨a, b, c, ?_, ?_, ?_⟩ <;> simp [World.frozen?, h]
theorem leftC {n L : Nat} (h : n < L) : L - (intOf (.int .i64 ((n : Int) + 1))).toNat < L - (intOf (.int .i64 (n : Int))).toNat := by
  show L - ((n : Int) + 1).toNat < L - ((n : Int)).toNat
  omega
theorem nums_cell {w : World} {base : Nat} {a : Option Addr} {n c : Nat} {l : List Nat} (h : w.ownsRow base 22 1 (.slice a n c) l.length (nums l)) {j : Nat} (hj : j < l.length) : ∃ g, a = some ⟨g, 0, none⟩ ∧ w.cell? ⟨g, j, none⟩ = some (.int .u64 ((l.getD j 0 : Nat) : Int)) := by
  rcases h.2 with ⟨_, h0⟩ | ⟨g, cap, cur, e, _⟩
  · omega
  · cases e
    refine ⟨g, rfl, ?_⟩
    have := h.cells (g := g) rfl j (.int .u64 ((l.getD j 0 : Nat) : Int)) (by
      unfold nums
      rw [List.getElem?_map, List.getElem?_eq_getElem hj, Option.map_some, List.getD_eq_getElem?_getD, List.getElem?_eq_getElem hj]
      rfl)
    rwa [Addr.add_mid, Nat.zero_add] at this
set_option maxRecDepth 20000 in
set_option maxHeartbeats 4000000 in
theorem index_none (base : Nat) (a : Option Addr) (n c : Nat) (l : List Nat) (hl : l.length = n) (hn : n ≤ 100) (s : Int) (hs : ∀ j, j < n → s ≠ ((l.getD j 0 : Nat) : Int)) (w : World) (h : w.ownsRow base 22 1 (.slice a n c) l.length (nums l)) :
    Calls Try.prog 18 #[.slice a n c, .int .u64 s] w fun e w' => e = .returned (.int .i64 (-1)) ∧ Below w.heap.size w w' := by
  have hc := Lib.hid (fun j (hj : j < l.length) => nums_cell h hj)
  replace hs := Lib.hid hs
  replace hl := Lib.hid hl
  clear h
  go_enter Try.func18, Try.ntmps18
  go_wp2
  go_loopw [8] (fun i wr => ∃ j : Nat, j ≤ n ∧ i = .int .i64 (j : Int) ∧ Below w.heap.size w wr) (fun i _ => n - (intOf i).toNat)
  case atStart => exact ⟨0, Nat.zero_le _, rfl, Below.refl _ _⟩
  case round =>
    obtain ⟨j, hj, rfl, hb⟩ := hrel
    by_cases hjn : j < n
    · have e1 : (j : Int) < (n : Int) := by omega
      have e2 : (0 : Int) ≤ (j : Int) := by omega
      obtain ⟨g, rfl, hx⟩ := hc.out j (by rw [hl.out]; exact hjn)
      replace hx := (hb.cell (World.block_lt_of_cell? _ _ hx)).trans hx
      have hne := hs.out j hjn
      generalize ((l.getD j 0 : Nat) : Int) = y at *
      have hq : (s == y) = false := by simpa using hne
      clear hne
      go_wp2
      exact ⟨⟨j + 1, by omega, by go_num, hb⟩, leftC (by assumption)⟩
    · obtain rfl : j = n := by omega
      have e1 : ¬ (j : Int) < (j : Int) := by omega
      go_wp2
      go_ret
      exact ⟨rfl, hb⟩
theorem contains_none (base : Nat) (a : Option Addr) (n c : Nat) (l : List Nat) (hl : l.length = n) (hn : n ≤ 100) (s : Int) (hs : ∀ j, j < n → s ≠ ((l.getD j 0 : Nat) : Int)) (w : World) (h : w.ownsRow base 22 1 (.slice a n c) l.length (nums l)) :
    Calls Try.prog 12 #[.slice a n c, .int .u64 s] w fun e w' => e = .returned (.bool false) ∧ Below w.heap.size w w' := by
  have hi := Lib.hid (index_none base a n c l hl hn s hs w h)
  clear h hs hl
  go_enter Try.func12, Try.ntmps12
  go_wp2_with fail
  refine call_then hi.out ?_
  intro w2 hb
  go_wp2
  go_ret
  exact ⟨rfl, hb⟩
theorem want_far (q : Nat) (s : Int) (hs : 1099511627776 < s) (w : World) : Calls Try.prog 7 #[.pointer (some ⟨q, 0, none⟩), .int .u64 s] w fun e w' => e = .returned (.int .i64 15) ∧ Below w.heap.size w w' := by
  go_enter Try.func7, Try.ntmps7
  go_wp2
  go_ret
  exact ⟨rfl, Below.refl _ _⟩
theorem info_u64c : ∃ i z, Try.prog.info? 22 = some i ∧ i.zero = some z ∧ i.size = 1 ∧ i.bytes = 8 ∧ z.cells.size = 1 := by
  have h : (Try.prog.info? 22).map (fun i => (i.zero.map (fun z => z.cells.size), i.size, i.bytes)) = some (some 1, 1, 8) := by kernel_rfl
  cases hi : Try.prog.info? 22 with
  | none => rw [hi] at h; cases h
  | some i =>
    rw [hi] at h
    cases hz : i.zero with
    | none => simp [hz] at h
    | some z =>
      simp [hz] at h
      exact ⟨i, z, rfl, hz, h.2.1, h.2.2, h.1⟩
/-- What a window more leaves. -/
def WantOut (q : Nat) (l : List Nat) (s : Nat) (w : World) (e : Ending) (w' : World) : Prop :=
  ∃ v', e = .returned (.int .i64 0) ∧ Coll q v' 0 (l ++ [s]) w' ∧ ∀ (B : Nat) (w0 : World), B ≤ q → B ≤ w.heap.size → Below B w0 w → Below B w0 w'
set_option maxRecDepth 20000 in
set_option maxHeartbeats 4000000 in
theorem want_full (q : Nat) (v : Value) (l : List Nat) (n : Nat) (hl : l.length = n) (hn : 32 ≤ n) (hn1 : n ≤ 100) (s : Nat) (hs : ∀ j, j < n → (s : Int) ≠ ((l.getD j 0 : Nat) : Int)) (hs1 : s ≤ 1099511627776) (w : World) (h : Coll q v 0 l w) :
    Calls Try.prog 7 #[.pointer (some ⟨q, 0, none⟩), .int .u64 (s : Int)] w fun e w' => e = .returned (.int .i64 5) ∧ Below w.heap.size w w' := by
  obtain ⟨a, c, rfl⟩ := owns_slice h.row
  rw [hl] at h
  have hco := Lib.hid (contains_none (q + 1) a n c l hl hn1 s hs w h.row)
  obtain ⟨c8, c9, c10, _, _, _⟩ := coll_cells h.at'
  have e1 : ¬ (1099511627776 : Int) < (s : Int) := by omega
  have e2 : (32 : Int) ≤ (n : Int) := by omega
  replace hs := Lib.hid hs
  replace hl := Lib.hid hl
  replace h := Lib.hid h
  go_enter Try.func7, Try.ntmps7
  go_wp2_with fail
  refine call_then hco.out ?_
  intro w2 hb
  clear c8 c9 c10 hco
  obtain ⟨c8, c9, c10, _, _, _⟩ := coll_cells (h.out.up hb).at'
  go_wp2
  go_ret
  exact ⟨rfl, hb⟩
set_option maxRecDepth 20000 in
set_option maxHeartbeats 4000000 in
theorem want_new (q : Nat) (v : Value) (l : List Nat) (n : Nat) (hl : l.length = n) (hn : n < 32) (s : Nat) (hs : ∀ j, j < n → (s : Int) ≠ ((l.getD j 0 : Nat) : Int)) (hs1 : s ≤ 1099511627776) (w : World) (h : Coll q v 0 l w) :
    Calls Try.prog 7 #[.pointer (some ⟨q, 0, none⟩), .int .u64 (s : Int)] w (WantOut q l s w) := by
  obtain ⟨i0, z0, hinf, hz0, hz1, hz2, hz3⟩ := info_u64c
  obtain ⟨a, c, rfl⟩ := owns_slice h.row
  rw [hl] at h
  have hco := Lib.hid (contains_none (q + 1) a n c l hl (by omega) s hs w h.row)
  obtain ⟨c8, c9, c10, _, _, _⟩ := coll_cells h.at'
  have e1 : ¬ (1099511627776 : Int) < (s : Int) := by omega
  have e2 : ¬ (32 : Int) ≤ (n : Int) := by omega
  unfold WantOut
  replace hs := Lib.hid hs
  replace hl := Lib.hid hl
  replace h := Lib.hid h
  go_enter Try.func7, Try.ntmps7
  go_wp2_with fail
  refine call_then hco.out ?_
  intro w2 hb
  clear c8 c9 c10 hco
  have h2 := h.out.up hb
  clear h
  obtain ⟨c8, c9, c10, _, _, _⟩ := coll_cells h2.at'
  have hqs := lt_of_get h2.at'
  have hva := (Below.refl w2.heap.size w2).alloc (Nat.le_refl _) (.cells #[.int .u64 (s : Int)] 22 (0, 0))
  have hA := h2.up hva
  have hrow := hA.row
  rw [hl.out] at hrow
  have kh : Hid (∀ j u, [Value.int .u64 (s : Int)][j]? = some u → (w2.alloc (.cells #[.int .u64 (s : Int)] 22 (0, 0))).cell? ((⟨w2.heap.size, 0, none⟩ : Addr).add j) = some u) := Lib.hid (fun j u hj => by rw [Addr.add_mid]; exact At0.of_block (cs := [Value.int .u64 (s : Int)]) (alloc_at rfl) j u hj)
  have hone : Hid (∀ u ∈ [Value.int .u64 (s : Int)], u.oneCell' = true) := Lib.hid (fun u hu => by obtain rfl := List.mem_singleton.1 hu; rfl)
  have t1 : n + 1 ≤ maxLen := by unfold maxLen; omega
  have t2 : (n + 1) * 8 ≤ 140737488355328 := by omega
  have hbase : Hid (q + 1 ≤ (w2.alloc (.cells #[.int .u64 (s : Int)] 22 (0, 0))).heap.size) := Lib.hid (by have := hva.size; omega)
  replace hrow := Lib.hid hrow
  replace hA := Lib.hid hA
  replace hva := Lib.hid hva
  replace h2 := Lib.hid h2
  go_wp2_with (first
    | (at_builtin; refine wpList_append_own _ rfl _ _ 52 rfl (q + 1) 22 i0 z0 1 8 Try.underlying52 hinf hz0 hz1 hz2 hz3 (by decide) _ _ _ rfl hrow.out ⟨_, 0, none⟩ 1 1 [Value.int .u64 (s : Int)] rfl rfl kh.out hone.out t1 t2 hbase.out ?_; intro v9 w9 ho9 hg9 hnn; obtain ⟨a9, k9, rfl⟩ := owns_slice ho9; have hq9 : w9.heap[q]? = _ := (hg9.block q (lt_of_get hA.out.at') (fun e => by have := (hrow.out.lt q e.symm).1; omega)).trans hA.out.at'; clear c8 c9 c10; obtain ⟨c8, c9, c10, f8, _, _⟩ := coll_cells hq9))
  go_ret
  have hlen : (l ++ [s]).length = n + 1 := by rw [List.length_append, hl.out]; rfl
  refine ⟨.slice a9 (n + 1) k9, rfl, ⟨?_, ?_⟩, fun B w0 hB hBw hb0 => ?_⟩
  · exact (store1 (o := 8) (v := .slice a9 (n + 1) k9) hq9).trans rfl
  · rw [hlen, show nums (l ++ [s]) = nums l ++ [Value.int .u64 (s : Int)] by unfold nums; rw [List.map_append]; rfl]
    exact ho9.kept (w' := w9.setCell ⟨q, 8, none⟩ (.slice a9 (n + 1) k9)) (row := some q) ⟨rfl, rfl, rfl, by simp [World.setCell], fun b hb hne => Below.heap_setCell _ _ _ _ (fun e => hne (by rw [show b = q from e]))⟩ (.inr (fun e => by have := (ho9.lt q e).1; omega))
  · have h3 : Below B w0 w2 := hb0.trans (hb.mono hBw)
    have h4 := h3.alloc (Nat.le_trans hBw hb.size) (.cells #[.int .u64 (s : Int)] 22 (0, 0))
    refine (h4.grown hg9 ?_ (fun k hk => by have := (hrow.out.lt k hk).1; omega)).setCell (p := ⟨q, 8, none⟩) hB _
    have := hva.out.size
    have := hb.size
    omega
set_option maxRecDepth 20000 in
set_option maxHeartbeats 4000000 in
theorem busy_ok (q : Nat) (v : Value) (l : List Nat) (n : Nat) (hl : l.length = n) (w : World) (h : Coll q v 0 l w) : Calls Try.prog 8 #[.pointer (some ⟨q, 0, none⟩)] w fun e w' => e = .returned (.tuple #[.bool false, .int .i64 (n : Int)]) ∧ Below w.heap.size w w' := by
  obtain ⟨a, c, rfl⟩ := owns_slice h.row
  rw [hl] at h
  obtain ⟨c8, c9, c10, _, _, _⟩ := coll_cells h.at'
  clear h hl
  go_enter Try.func8, Try.ntmps8
  go_wp2
  refine wp_region_flow0 (by kernel_rfl) (by kernel_rfl) ?_
  intro ι _ φ hφ
  have d8 := fun i => ((hφ.old i).cell (World.block_lt_of_cell? _ _ c8)).trans c8
  have d9 := fun i => ((hφ.old i).cell (World.block_lt_of_cell? _ _ c9)).trans c9
  repeat (go_big_quiet_step (fail))
  refine wpQuiet_nil ?_
  intro w6 hv
  go_wp2
  refine bodyPost_ret (v := .tuple #[.bool false, .int .i64 (n : Int)]) (by simp [results, Try.results8, go_sem]) rfl ⟨rfl, hv⟩
end Go.Proofs.Ytnfikpkbneachaa
