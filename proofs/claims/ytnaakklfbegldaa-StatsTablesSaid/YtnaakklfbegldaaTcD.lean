/-
  A table's rows: what can't be added.
-/
import Derived.Test.YtnaakklfbegldaaTcC
import Derived.Deep.Cut
import Derived.Deep.DeepCutAuto
import Derived.Deep.CutBlock
namespace Go.Proofs.Ytnaakklfbegldaa
open Go.RowKit Flow
set_option linter.unusedVariables false
set_option linter.unusedSimpArgs false

set_option maxRecDepth 20000 in
set_option maxHeartbeats 4000000 in
theorem tadd_few (p base : Nat) (l : List TR) (a : Option Addr) (L cap : Nat) (t m : Int) (B : Option Addr) (n cB : Nat) (xs : List Value) (w : World) (h : Tb p base l (.slice a L cap) w) (hN : News w B n cB 1 xs)
    (hm : (decide (1 ≤ m) && decide (m ≤ 256)) = false) :
    Calls Try.prog 10 #[.pointer (some ⟨p, 0, none⟩), .agg #[.int .u64 t, .int .i64 m, .slice B n cB]] w fun e w' => e = .returned (.int .i64 17) ∧ Below w.heap.size w w' := by
  have hma := Lib.hid (fun w => many_any m w)
  go_enter Try.func10, Try.ntmps10
  go_upto_region 1 with (fail)
  refine name_wp (fun w1 => Below w.heap.size w w1 ∧ Tb p base l (.slice a L cap) w1 ∧ w1.heap[w.heap.size]? = some (.cells #[.int .u64 t, .int .i64 m, .slice B n cB] 29 (0, 0)) ∧ News w1 B n cB 1 xs)
    ⟨(Below.refl _ _).alloc (Nat.le_refl _) _, h.below ((Below.refl _ _).alloc (Nat.le_refl _) _), alloc_at rfl, hN.up ((Below.refl _ _).alloc (Nat.le_refl _) _)⟩ ?_
  clear h hN
  rintro w1 ⟨hb, h, kx, hN⟩
  obtain ⟨x0, x1, x2, _, _, _⟩ := blk3t kx
  obtain ⟨c0, _⟩ := blk1t h.hp
  go_wp2_with fail
  refine call_then (hma.out _) ?_
  intro w2 hv
  clear x0 x1 x2 c0 hma
  replace hb := below_next hb hb.size hv
  replace h := h.below hv
  replace kx := keeps hv kx
  replace hN := hN.up hv
  clear hv
  rw [hm]
  obtain ⟨x0, x1, x2, _, _, _⟩ := blk3t kx
  obtain ⟨c0, _⟩ := blk1t h.hp
  go_wp2
  go_ret
  exact ⟨rfl, hb⟩
set_option maxRecDepth 20000 in
set_option maxHeartbeats 4000000 in
theorem tadd_many (p base : Nat) (l : List TR) (a : Option Addr) (L cap : Nat) (t m : Int) (B : Option Addr) (n cB : Nat) (xs : List Value) (w : World) (h : Tb p base l (.slice a L cap) w) (hN : News w B n cB 1 xs)
    (hm : (decide (1 ≤ m) && decide (m ≤ 256)) = true) (hq : 64 < n ∨ 32 ≤ L) :
    Calls Try.prog 10 #[.pointer (some ⟨p, 0, none⟩), .agg #[.int .u64 t, .int .i64 m, .slice B n cB]] w fun e w' => e = .returned (.int .i64 5) ∧ Below w.heap.size w w' := by
  by_cases hn : 64 < n
  · have e1 : (64 : Int) < (n : Int) := by omega
    have hma := Lib.hid (fun w => many_any m w)
    go_enter Try.func10, Try.ntmps10
    go_upto_region 1 with (fail)
    refine name_wp (fun w1 => Below w.heap.size w w1 ∧ Tb p base l (.slice a L cap) w1 ∧ w1.heap[w.heap.size]? = some (.cells #[.int .u64 t, .int .i64 m, .slice B n cB] 29 (0, 0)) ∧ News w1 B n cB 1 xs)
      ⟨(Below.refl _ _).alloc (Nat.le_refl _) _, h.below ((Below.refl _ _).alloc (Nat.le_refl _) _), alloc_at rfl, hN.up ((Below.refl _ _).alloc (Nat.le_refl _) _)⟩ ?_
    clear h hN
    rintro w1 ⟨hb, h, kx, hN⟩
    obtain ⟨x0, x1, x2, _, _, _⟩ := blk3t kx
    obtain ⟨c0, _⟩ := blk1t h.hp
    go_wp2_with fail
    refine call_then (hma.out _) ?_
    intro w2 hv
    clear x0 x1 x2 c0 hma
    replace hb := below_next hb hb.size hv
    replace h := h.below hv
    replace kx := keeps hv kx
    replace hN := hN.up hv
    clear hv
    rw [hm]
    obtain ⟨x0, x1, x2, _, _, _⟩ := blk3t kx
    obtain ⟨c0, _⟩ := blk1t h.hp
    go_wp2
    go_ret
    exact ⟨rfl, hb⟩
  · have e1 : ¬ (64 : Int) < (n : Int) := by omega
    have e2 : (32 : Int) ≤ (L : Int) := by omega
    have hma := Lib.hid (fun w => many_any m w)
    go_enter Try.func10, Try.ntmps10
    go_upto_region 1 with (fail)
    refine name_wp (fun w1 => Below w.heap.size w w1 ∧ Tb p base l (.slice a L cap) w1 ∧ w1.heap[w.heap.size]? = some (.cells #[.int .u64 t, .int .i64 m, .slice B n cB] 29 (0, 0)) ∧ News w1 B n cB 1 xs)
      ⟨(Below.refl _ _).alloc (Nat.le_refl _) _, h.below ((Below.refl _ _).alloc (Nat.le_refl _) _), alloc_at rfl, hN.up ((Below.refl _ _).alloc (Nat.le_refl _) _)⟩ ?_
    clear h hN
    rintro w1 ⟨hb, h, kx, hN⟩
    obtain ⟨x0, x1, x2, _, _, _⟩ := blk3t kx
    obtain ⟨c0, _⟩ := blk1t h.hp
    go_wp2_with fail
    refine call_then (hma.out _) ?_
    intro w2 hv
    clear x0 x1 x2 c0 hma
    replace hb := below_next hb hb.size hv
    replace h := h.below hv
    replace kx := keeps hv kx
    replace hN := hN.up hv
    clear hv
    rw [hm]
    obtain ⟨x0, x1, x2, _, _, _⟩ := blk3t kx
    obtain ⟨c0, _⟩ := blk1t h.hp
    go_wp2
    go_ret
    exact ⟨rfl, hb⟩
theorem first_cell {p base : Nat} {l : List TR} {a : Option Addr} {L cap : Nat} {w : World} (h : Tb p base l (.slice a L cap) w) (hL : 0 < l.length) : L = l.length ∧ ∃ g, a = some ⟨g, 0, none⟩ ∧ w.cell? ⟨g, 2, none⟩ = some (.slice (tnth l 0).A (tnth l 0).xs.length (tnth l 0).c) := by
  rcases tb_slice h with ⟨_, rfl⟩ | ⟨g, cap2, e⟩
  · simp at hL
  · cases e
    refine ⟨rfl, g, rfl, ?_⟩
    have := trow_at h.row hL 2 (.slice (tnth l 0).A (tnth l 0).xs.length (tnth l 0).c) rfl
    simpa using this
set_option maxRecDepth 20000 in
set_option maxHeartbeats 4000000 in
theorem tadd_size (p base : Nat) (l : List TR) (a : Option Addr) (L cap : Nat) (t m : Int) (B : Option Addr) (n cB : Nat) (xs : List Value) (w : World) (h : Tb p base l (.slice a L cap) w) (hN : News w B n cB 1 xs)
    (hm : (decide (1 ≤ m) && decide (m ≤ 256)) = true) (hn : n ≤ 64) (hL : L < 32) (hl : 0 < l.length) (hz : (tnth l 0).xs.length ≠ n) :
    Calls Try.prog 10 #[.pointer (some ⟨p, 0, none⟩), .agg #[.int .u64 t, .int .i64 m, .slice B n cB]] w fun e w' => e = .returned (.int .i64 9) ∧ Below w.heap.size w w' := by
  obtain ⟨hLl, g, rfl, _⟩ := first_cell h hl
  have e1 : ¬ (64 : Int) < (n : Int) := by omega
  have e2 : ¬ (32 : Int) ≤ (L : Int) := by omega
  have e3 : (0 : Int) < (L : Int) := by omega
  have e4 : 0 < L := by omega
  have e5 : ¬ ((tnth l 0).xs.length : Int) = (n : Int) := by omega
  have hfc := Lib.hid (fun w (h : Tb p base l (.slice (some ⟨g, 0, none⟩) L cap) w) => (first_cell h hl).2)
  generalize (tnth l 0).xs.length = k0 at *
  replace hLl := Lib.hid hLl
  replace hl := Lib.hid hl
  have hma := Lib.hid (fun w => many_any m w)
  go_enter Try.func10, Try.ntmps10
  go_upto_region 1 with (fail)
  refine name_wp (fun w1 => Below w.heap.size w w1 ∧ Tb p base l (.slice (some ⟨g, 0, none⟩) L cap) w1 ∧ w1.heap[w.heap.size]? = some (.cells #[.int .u64 t, .int .i64 m, .slice B n cB] 29 (0, 0)) ∧ News w1 B n cB 1 xs)
    ⟨(Below.refl _ _).alloc (Nat.le_refl _) _, h.below ((Below.refl _ _).alloc (Nat.le_refl _) _), alloc_at rfl, hN.up ((Below.refl _ _).alloc (Nat.le_refl _) _)⟩ ?_
  clear h hN
  rintro w1 ⟨hb, h, kx, hN⟩
  obtain ⟨x0, x1, x2, _, _, _⟩ := blk3t kx
  obtain ⟨c0, _⟩ := blk1t h.hp
  go_wp2_with fail
  refine call_then (hma.out _) ?_
  intro w2 hv
  clear x0 x1 x2 c0 hma
  replace hb := below_next hb hb.size hv
  replace h := h.below hv
  replace kx := keeps hv kx
  replace hN := hN.up hv
  clear hv
  rw [hm]
  obtain ⟨x0, x1, x2, _, _, _⟩ := blk3t kx
  obtain ⟨c0, _⟩ := blk1t h.hp
  obtain ⟨g', hgg, c2⟩ := hfc.out _ h
  obtain rfl : g = g' := by cases hgg; rfl
  clear hgg
  go_wp2
  refine wp_region_flow0 (by kernel_rfl) (by kernel_rfl) ?_
  intro ι _ φ hφ
  have d0 := fun i => (blk1t (keeps (hφ.old i) h.hp)).1
  have d2 := fun i => ((hφ.old i).cell (World.block_lt_of_cell? _ _ c2)).trans c2
  have y2 := fun i => (blk3t (keeps (hφ.old i) kx)).2.2.1
  repeat (go_big_quiet_step (fail))
  refine wpQuiet_nil ?_
  intro w3 hv
  clear d0 d2 y2
  replace hb := below_next hb hb.size hv
  replace h := h.below hv
  replace kx := keeps hv kx
  replace hN := hN.up hv
  clear hv
  go_wp2
  go_ret
  exact ⟨rfl, hb⟩
end Go.Proofs.Ytnaakklfbegldaa
