/-
  A table of one row: its rows, its columns.
-/
import Derived.Test.YtnaakklfbegldaaTbB
import Derived.Deep.Cut
import Derived.Deep.DeepCutAuto
import Derived.Deep.CutBlock
namespace Go.Proofs.Ytnaakklfbegldaa
open Go.RowKit Flow
set_option linter.unusedVariables false
set_option linter.unusedSimpArgs false

@[go_sem] theorem run_store_float {P : Program} {w : World} {a : Addr} {m : Mode} (k : FloatKind) (n : Nat) : (store a (.float k n) m).run P w = stored P w a (.float k n) m := run_store P w a _ m rfl
/-- A table of one row of two numbers. -/
structure Tab (p g cap : Nat) (t : Int) (r c : Nat) (a b : Nat) (w : World) : Prop where
  hp : w.heap[p]? = some (.cells #[.slice (some ⟨g, 0, none⟩) 1 cap] 25 (0, 0))
  row : At0 w g (rowc t 1 (.slice (some ⟨r, 0, none⟩) 2 c))
  fl : At0 w r [.float .f64 a, .float .f64 b]
theorem Tab.up {p g cap : Nat} {t : Int} {r c : Nat} {a b : Nat} {w w' : World} (h : Tab p g cap t r c a b w) (hb : Below w.heap.size w w') : Tab p g cap t r c a b w' :=
  ⟨keeps hb h.hp, h.row.up hb, h.fl.up hb⟩
theorem at0_cell {w : World} {g j : Nat} {cs : List Value} {v : Value} (h : At0 w g cs) (hj : cs[j]? = some v) : w.cell? ⟨g, j, none⟩ = some v := by
  have := h j v hj
  rwa [Nat.zero_add] at this
theorem Tab.cells {p g cap : Nat} {t : Int} {r c : Nat} {a b : Nat} {w : World} (h : Tab p g cap t r c a b w) :
    w.cell? ⟨p, 0, none⟩ = some (.slice (some ⟨g, 0, none⟩) 1 cap) ∧ w.cell? ⟨g, 0, none⟩ = some (.int .u64 t) ∧ w.cell? ⟨g, 1, none⟩ = some (.int .i64 1) ∧ w.cell? ⟨g, 2, none⟩ = some (.slice (some ⟨r, 0, none⟩) 2 c) ∧ w.cell? ⟨r, 0, none⟩ = some (.float .f64 a) ∧ w.cell? ⟨r, 1, none⟩ = some (.float .f64 b) :=
  ⟨(blk1t h.hp).1, at0_cell h.row rfl, at0_cell h.row rfl, at0_cell h.row rfl, at0_cell h.fl rfl, at0_cell h.fl rfl⟩
set_option maxHeartbeats 1000000 in
theorem has_one (p g cap : Nat) (t : Int) (r c : Nat) (a b : Nat) (i : Int) (hi : i = 0 ∨ i = 1) (w : World) (h : Tab p g cap t r c a b w) :
    Calls Try.prog 30 #[.pointer (some ⟨p, 0, none⟩), .int .i64 i] w fun e w' => e = .returned (.bool true) ∧ Below w.heap.size w w' := by
  obtain ⟨c0, c1, c2, c3, c4, c5⟩ := h.cells
  clear h
  rcases hi with rfl | rfl
  · go_enter Try.func30, Try.ntmps30
    go_wp2
    go_ret
    exact ⟨rfl, Below.refl _ _⟩
  · go_enter Try.func30, Try.ntmps30
    go_wp2
    go_ret
    exact ⟨rfl, Below.refl _ _⟩
theorem make_one (w : World) : (Instr.makeSlice 27 (.int .i64 1) (.int .i64 1)).run Try.prog w = .ok (.slice (some ⟨w.heap.size, 0, none⟩) 1 1) (w.alloc (.cells #[.float .f64 0] 35)) := by kernel_rfl
theorem make_row (w : World) : (Instr.makeSlice 22 (.int .i64 1) (.int .i64 1)).run Try.prog w = .ok (.slice (some ⟨w.heap.size, 0, none⟩) 1 1) (w.alloc (.cells #[.int .u64 0, .int .i64 0, .slice none 0 0] 29)) := by kernel_rfl
def colAt (a b : Nat) (i : Int) : Nat := if i = 0 then a else b
set_option maxRecDepth 20000 in
set_option maxHeartbeats 4000000 in
theorem column_one (p g cap : Nat) (t : Int) (r c : Nat) (a b : Nat) (i : Nat) (hi : i = 0 ∨ i = 1) (w : World) (h : Tab p g cap t r c a b w) :
    Calls Try.prog 13 #[.pointer (some ⟨p, 0, none⟩), .int .i64 i] w fun e w' => ∃ q, e = .returned (.tuple #[.slice (some ⟨q, 0, none⟩) 1 1, .bool true]) ∧ Below w.heap.size w w' ∧ w'.cell? ⟨q, 0, none⟩ = some (.float .f64 (colAt a b i)) := by
  have hh := Lib.hid (fun w h => has_one p g cap t r c a b i (by omega) w h)
  have hv : ∀ w, Tab p g cap t r c a b w → w.cell? ⟨r, i, none⟩ = some (.float .f64 (colAt a b i)) := fun w h => by
    obtain ⟨_, _, _, _, c4, c5⟩ := h.cells
    rcases hi with rfl | rfl
    · exact c4
    · exact c5
  have i0 : (0 : Int) ≤ (i : Int) := by omega
  have i1 : (i : Int) < 2 := by omega
  replace hv := Lib.hid hv
  generalize colAt a b i = x at *
  clear hi
  go_enter Try.func13, Try.ntmps13
  go_wp2_with fail
  refine call_then (hh.out _ h) ?_
  intro w1 hb
  replace h := h.up hb
  obtain ⟨c0, c1, c2, c3, _, _⟩ := h.cells
  clear hh
  have hmk := make_one
  go_upto_region 4 with (fail)
  clear hmk c0 c1 c2 c3
  have hnx := (Below.refl w1.heap.size w1).alloc (Nat.le_refl _) (.cells #[.float .f64 0] 35 (0, 0))
  have kq := alloc_at (w := w1) (k := w1.heap.size) (o := .cells #[.float .f64 0] 35 (0, 0)) rfl
  have hq := hb.size
  replace h := h.up hnx
  replace hb := below_next hb hb.size hnx
  clear hnx
  generalize w1.alloc (.cells #[.float .f64 0] 35 (0, 0)) = w2 at *
  generalize w1.heap.size = q at *
  obtain ⟨c0, c1, c2, c3, _, _⟩ := h.cells
  go_wp2
  refine wp_loop_rounds 2 ?_
  rw [rounds_succ]
  go_upto_region 7 with (first
    | (refine list_load_mid _ _ _ 0 _ _ rfl rfl rfl h.row Try.underlying29 rfl (by kernel_rfl) ?_)
    | (refine list_store_whole _ _ _ _ (rowc t 1 (.slice (some ⟨r, 0, none⟩) 2 c)) [.int .u64 0, .int .i64 0, .slice none 0 0] 29 rfl rfl rfl rfl (alloc_at rfl) rfl (by kernel_rfl) rowc_one ?_; intro w3 hbut kr; have hnx := hbut.below ((Below.refl w2.heap.size w2).alloc (Nat.le_refl _) _) (Nat.le_refl _) (by simp)))
  have hq2 := lt_of_get kq
  clear hbut c0 c1 c2 c3
  replace kq := keeps hnx kq
  replace h := h.up hnx
  replace hb := below_next hb hb.size hnx
  clear hnx
  generalize w2.heap.size = q2 at *
  obtain ⟨c0, c1, c2, c3, _, _⟩ := h.cells
  obtain ⟨s0, s1, s2, _, _, _⟩ := blk3t (kr.trans rfl)
  obtain ⟨d0, f0⟩ := blk1t kq
  have e0 := hv.out _ h
  go_wp2
  rw [rounds_succ]
  go_wp2
  refine bodyPost_ret (v := .tuple #[.slice (some ⟨q, 0, none⟩) 1 1, .bool true]) (by simp [results, Try.results13, go_sem]) rfl ⟨q, rfl, hb.setCell (p := ⟨q, 0, none⟩) hq _, ?_⟩
  have := store1 (o := 0) (v := .float .f64 x) kq
  exact (blk1t (this.trans rfl)).1
theorem two_own {w : World} {base : Nat} {e : TypeId} {A : Option Addr} {c : Nat} {a b : Value} (h : w.ownsRow base e 1 (.slice A 2 c) 2 [a, b]) :
    ∃ r, A = some ⟨r, 0, none⟩ ∧ base ≤ r ∧ r < w.heap.size ∧ At0 w r [a, b] ∧ w.frozen? ⟨r, 0, none⟩ = false ∧ w.frozen? ⟨r, 1, none⟩ = false := by
  rcases h.2 with ⟨_, h0⟩ | ⟨r, cap, cur, e1, hb, hg, _⟩
  · exact absurd h0 (by omega)
  · cases e1
    have hc := h.cells (g := r) rfl
    refine ⟨r, rfl, hb, (h.lt r rfl).2, fun j v hj => ?_, ?_, ?_⟩
    · have := hc j v hj
      rwa [Addr.add_mid] at this
    · simp [World.frozen?, hg]
    · simp [World.frozen?, hg]
set_option maxRecDepth 20000 in
set_option maxHeartbeats 4000000 in
theorem rows_one (p g cap : Nat) (t : Int) (r c : Nat) (a b : Nat) (w : World) (h : Tab p g cap t r c a b w) :
    Calls Try.prog 11 #[.pointer (some ⟨p, 0, none⟩)] w fun e w' => ∃ q s c3, e = .returned (.slice (some ⟨q, 0, none⟩) 1 1) ∧ Below w.heap.size w w' ∧ w.heap.size ≤ q ∧ w.heap.size ≤ s ∧ w'.cell? ⟨q, 2, none⟩ = some (.slice (some ⟨s, 0, none⟩) 2 c3) ∧ w'.cell? ⟨s, 1, none⟩ = some (.float .f64 b) ∧ w'.frozen? ⟨s, 1, none⟩ = false := by
  have hc := Lib.hid (fun w h => copied_any t 1 r 0 2 c [.float .f64 a, .float .f64 b] rfl (fun u hu => by
    simp only [List.mem_cons, List.not_mem_nil, or_false] at hu
    rcases hu with rfl | rfl <;> rfl) (by omega) w h)
  unfold FlOut at hc
  obtain ⟨c0, c1, c2, c3, _, _⟩ := h.cells
  have hmk := make_row
  go_enter Try.func11, Try.ntmps11
  go_upto_region 4 with (fail)
  clear hmk c0 c1 c2 c3
  have hb := (Below.refl w.heap.size w).alloc (Nat.le_refl _) (.cells #[.int .u64 0, .int .i64 0, .slice none 0 0] 29 (0, 0))
  have kq := alloc_at (w := w) (k := w.heap.size) (o := .cells #[.int .u64 0, .int .i64 0, .slice none 0 0] 29 (0, 0)) rfl
  replace h := h.up hb
  generalize w.alloc (.cells #[.int .u64 0, .int .i64 0, .slice none 0 0] 29 (0, 0)) = w2 at *
  obtain ⟨q, hq⟩ : ∃ q, w.heap.size = q := ⟨_, rfl⟩
  rw [hq] at kq hb ⊢
  obtain ⟨c0, c1, c2, c3, _, _⟩ := h.cells
  go_wp2
  refine wp_loop_rounds 2 ?_
  rw [rounds_succ]
  go_upto_region 7 with (first
    | (refine list_load_mid _ _ _ 0 _ _ rfl rfl rfl h.row Try.underlying29 rfl (by kernel_rfl) ?_)
    | (refine list_store_whole _ _ _ _ (rowc t 1 (.slice (some ⟨r, 0, none⟩) 2 c)) [.int .u64 0, .int .i64 0, .slice none 0 0] 29 rfl rfl rfl rfl (alloc_at rfl) rfl (by kernel_rfl) rowc_one ?_; intro w3 hbut kr; have hnx := hbut.below ((Below.refl w2.heap.size w2).alloc (Nat.le_refl _) _) (Nat.le_refl _) (by simp)))
  have hq2 := lt_of_get kq
  clear hbut c0 c1 c2 c3
  replace kq := keeps hnx kq
  replace h := h.up hnx
  replace hb := below_next hb (by omega) hnx
  clear hnx
  generalize w2.heap.size = q2 at *
  obtain ⟨s0, s1, s2, _, _, _⟩ := blk3t (kr.trans rfl)
  have hq3 := lt_of_get kq
  go_wp2_with fail
  refine (hc.out _ h.fl).mono ?_
  rintro e w5 ⟨A, c5, rfl, hnx, hown⟩
  obtain ⟨s, rfl, hs1, hs2, hsa, hs3, hs4⟩ := two_own hown
  clear hc s0 s1 s2 hown
  replace kq := keeps hnx kq
  replace hb := below_next hb (by omega) hnx
  clear hnx h kr
  go_wp2_with (first
    | (refine list_store_whole _ _ _ _ (rowc t 1 (.slice (some ⟨s, 0, none⟩) 2 c5)) [.int .u64 0, .int .i64 0, .slice none 0 0] 29 rfl rfl rfl rfl kq rfl (by kernel_rfl) rowc_one ?_; intro w6 hbut kq6; have hb6 := hbut.below hb (Nat.le_refl _) (by omega)))
  rw [rounds_succ]
  go_wp2
  go_ret
  have hsq : s ≠ q := by omega
  have hf := hbut.block s hs2 hsq
  refine ⟨q, s, c5, rfl, by rw [hq]; exact hb6, by omega, by omega, (blk3t (kq6.trans rfl)).2.2.1, ?_, ?_⟩
  · rw [World.cell?_of_block (w := w5) (a := ⟨s, 1, none⟩) hf]
    exact at0_cell hsa rfl
  · rw [← hs4]
    simp [World.frozen?, hf]
end Go.Proofs.Ytnaakklfbegldaa
