/-
  The law's walk, of a field.
-/
import Derived.Test.YtailpfbdanhpmaaDoorGcE
namespace Go.Proofs.YtailpfbdanhpmaaDoor
open Go.RowKit F Flow
set_option linter.unusedVariables false
set_option linter.unusedSimpArgs false
attribute [local go_sem] eql_elem

set_option maxRecDepth 20000 in
set_option maxHeartbeats 4000000 in
theorem gadgetChecks_mul_1 (k m : Int) (A B : Option Addr) (n c L cb : Nat) (hn : n ≤ 20) (hL : L ≤ 40) (cs xs : List Int) (hz : True) (w : World) (hC : GkC A B cs xs w) (hans : Ans 1 (gvl 1 A n c m) 0 B L cb (GkC A B cs xs)) :
    Calls Tryd.prog 4 #[.int .u8 1, gvl 1 A n c m, .slice B L cb] w fun e w' => e = .returned (.bool true) ∧ Below w.heap.size w w' := by
  have hof := Lib.hid hans.of
  have hpl := Lib.hid hans.poly
  have hck := Lib.hid hans.chk
  unfold ChkBy at hck
  unfold OfR at hof
  unfold PlR at hpl
  unfold gvl at hof hpl hck
  clear hans
  have gaw := Lib.hid gawake
  have y1 : ¬ ((20 : Int) < (n : Int)) := by omega
  have y2 : ¬ ((40 : Int) < (L : Int)) := by omega
  unfold gvl
  go_enter Tryd.func4, Tryd.ntmps4
  go_wp2_with fail
  refine name_calls (fun w1 => Below w.heap.size w w1 ∧ w1.heap[w.heap.size]? = some (.cells #[.int .u8 1, .slice A n c, .int .i64 m] 34 (0, 0))) ⟨(Below.refl _ _).alloc (Nat.le_refl _) _, alloc_at rfl⟩ ?_
  rintro w1 ⟨hb, k0⟩
  refine call_then (gaw.out _) ?_
  intro w2 hb2
  replace hb := below_next hb hb.size hb2
  replace k0 := keeps hb2 k0
  clear hb2
  obtain ⟨c0, c1, c2, _⟩ := blk3 k0
  go_wp2_with fail
  clear c0 c1 c2
  refine name_calls (fun w3 => Below w.heap.size w w3 ∧ w3.heap[w.heap.size]? = some (.cells #[.int .u8 1, .slice A n c, .int .i64 m] 34 (0, 0))) ⟨hb, k0⟩ ?_
  clear hb k0
  rintro w3 ⟨hb, k0⟩
  refine (hof.out _ (GkC.up _ _ hb hC)).mono ?_
  rintro e w4 ⟨x, y, e0, rfl, hW1, hb2⟩
  clear hW1
  replace hb := below_next hb hb.size hb2
  replace k0 := keeps hb2 k0
  clear hb2 hof
  obtain ⟨c0, c1, c2, _⟩ := blk3 k0
  have l0 := lt_of_get k0
  have l1 : w.heap.size ≠ w4.heap.size := Nat.ne_of_lt l0
  go_wp2_with fail
  have hb5 := (hb.alloc hb.size (.cells #[.int .u64 x, .int .u64 y] 28 (0, 0))).alloc (by simp; exact Nat.le_succ_of_le hb.size) (.cells #[.slice B L cb] 22 (0, 0))
  refine name_calls (fun w5 => Below w.heap.size w w5 ∧ w5.heap[w.heap.size]? = some (.cells #[.int .u8 1, .slice A n c, .int .i64 m] 34 (0, 0)) ∧ w5.heap[w4.heap.size]? = some (.cells #[.int .u64 x, .int .u64 y] 28 (0, 0)) ∧ w5.cell? ⟨w4.heap.size + 1, 0, none⟩ = some (.slice B L cb)) ⟨hb5, alloc_keeps (alloc_keeps k0), alloc_keeps (alloc_at rfl), ?_⟩ ?_
  · have h : ((w4.alloc (.cells #[.int .u64 x, .int .u64 y] 28 (0, 0))).alloc (.cells #[.slice B L cb] 22 (0, 0))).heap[w4.heap.size + 1]? = some (.cells #[.slice B L cb] 22 (0, 0)) := alloc_at (by simp)
    exact slc_cell h
  clear hb k0 c0 c1 c2 hb5 l0 l1
  generalize w4.heap.size + 1 = pb at *
  generalize w4.heap.size = p12 at *
  rintro w5 ⟨hb, k0, k12, kb⟩
  refine (hpl.out _ _ _ (GkC.up _ _ hb hC) kb).mono ?_
  rintro e w6 ⟨A6, L6, e6, rfl, hW2, hb2⟩
  clear hW2
  replace hb := below_next hb hb.size hb2
  replace k0 := keeps hb2 k0
  replace k12 := keeps hb2 k12
  clear hb2 hpl kb
  obtain ⟨c0, c1, c2, _⟩ := blk3 k0
  go_wp2_with fail
  clear c0 c1 c2
  refine call_then (hck.out _ (GkC.up _ _ hb hC)) ?_
  intro w7 hb2
  replace hb := below_next hb hb.size hb2
  replace k12 := keeps hb2 k12
  clear hb2 hck k0
  obtain ⟨d0, d1, _, _⟩ := blk2 k12
  skip
  clear hC
  go_wp2
  go_ret
  exact ⟨rfl, hb⟩
set_option maxRecDepth 20000 in
set_option maxHeartbeats 4000000 in
theorem gadgetChecks_low_1 (k m : Int) (A B : Option Addr) (n c L cb : Nat) (hn : n ≤ 20) (hL : L ≤ 40) (cs xs : List Int) (hm : m < 1) (w : World) (hC : GkC A B cs xs w) (hans : Ans 1 (gvl 3 A n c m) 6 B L cb (GkC A B cs xs)) :
    Calls Tryd.prog 4 #[.int .u8 1, gvl 3 A n c m, .slice B L cb] w fun e w' => e = .returned (.bool true) ∧ Below w.heap.size w w' := by
  have hof := Lib.hid hans.of
  have hpl := Lib.hid hans.poly
  have hck := Lib.hid hans.chk
  unfold ChkBy at hck
  unfold OfR at hof
  unfold PlR at hpl
  unfold gvl at hof hpl hck
  clear hans
  have gaw := Lib.hid gawake
  have y1 : ¬ ((20 : Int) < (n : Int)) := by omega
  have y2 : ¬ ((40 : Int) < (L : Int)) := by omega
  unfold gvl
  go_enter Tryd.func4, Tryd.ntmps4
  go_wp2_with fail
  refine name_calls (fun w1 => Below w.heap.size w w1 ∧ w1.heap[w.heap.size]? = some (.cells #[.int .u8 3, .slice A n c, .int .i64 m] 34 (0, 0))) ⟨(Below.refl _ _).alloc (Nat.le_refl _) _, alloc_at rfl⟩ ?_
  rintro w1 ⟨hb, k0⟩
  refine call_then (gaw.out _) ?_
  intro w2 hb2
  replace hb := below_next hb hb.size hb2
  replace k0 := keeps hb2 k0
  clear hb2
  obtain ⟨c0, c1, c2, _⟩ := blk3 k0
  go_wp2_with fail
  clear c0 c1 c2
  refine name_calls (fun w3 => Below w.heap.size w w3 ∧ w3.heap[w.heap.size]? = some (.cells #[.int .u8 3, .slice A n c, .int .i64 m] 34 (0, 0))) ⟨hb, k0⟩ ?_
  clear hb k0
  rintro w3 ⟨hb, k0⟩
  refine (hof.out _ (GkC.up _ _ hb hC)).mono ?_
  rintro e w4 ⟨x, y, e0, rfl, hW1, hb2⟩
  obtain ⟨rfl, rfl, rfl⟩ := hW1 (by decide); clear hW1
  replace hb := below_next hb hb.size hb2
  replace k0 := keeps hb2 k0
  clear hb2 hof
  obtain ⟨c0, c1, c2, _⟩ := blk3 k0
  have l0 := lt_of_get k0
  have l1 : w.heap.size ≠ w4.heap.size := Nat.ne_of_lt l0
  go_wp2_with fail
  have hb5 := (hb.alloc hb.size (.cells #[.int .u64 0, .int .u64 0] 28 (0, 0))).alloc (by simp; exact Nat.le_succ_of_le hb.size) (.cells #[.slice B L cb] 22 (0, 0))
  refine name_calls (fun w5 => Below w.heap.size w w5 ∧ w5.heap[w.heap.size]? = some (.cells #[.int .u8 3, .slice A n c, .int .i64 m] 34 (0, 0)) ∧ w5.heap[w4.heap.size]? = some (.cells #[.int .u64 0, .int .u64 0] 28 (0, 0)) ∧ w5.cell? ⟨w4.heap.size + 1, 0, none⟩ = some (.slice B L cb)) ⟨hb5, alloc_keeps (alloc_keeps k0), alloc_keeps (alloc_at rfl), ?_⟩ ?_
  · have h : ((w4.alloc (.cells #[.int .u64 0, .int .u64 0] 28 (0, 0))).alloc (.cells #[.slice B L cb] 22 (0, 0))).heap[w4.heap.size + 1]? = some (.cells #[.slice B L cb] 22 (0, 0)) := alloc_at (by simp)
    exact slc_cell h
  clear hb k0 c0 c1 c2 hb5 l0 l1
  generalize w4.heap.size + 1 = pb at *
  generalize w4.heap.size = p12 at *
  rintro w5 ⟨hb, k0, k12, kb⟩
  refine (hpl.out _ _ _ (GkC.up _ _ hb hC) kb).mono ?_
  rintro e w6 ⟨A6, L6, e6, rfl, hW2, hb2⟩
  obtain ⟨rfl, rfl, rfl⟩ := hW2 (by decide); clear hW2
  replace hb := below_next hb hb.size hb2
  replace k0 := keeps hb2 k0
  replace k12 := keeps hb2 k12
  clear hb2 hpl kb
  obtain ⟨c0, c1, c2, _⟩ := blk3 k0
  go_wp2_with fail
  clear c0 c1 c2
  refine call_then (hck.out _ (GkC.up _ _ hb hC)) ?_
  intro w7 hb2
  replace hb := below_next hb hb.size hb2
  replace k12 := keeps hb2 k12
  clear hb2 hck k0
  obtain ⟨d0, d1, _, _⟩ := blk2 k12
  skip
  clear hC
  go_wp2
  go_ret
  exact ⟨rfl, hb⟩
set_option maxRecDepth 20000 in
set_option maxHeartbeats 4000000 in
theorem gadgetChecks_high_1 (k m : Int) (A B : Option Addr) (n c L cb : Nat) (hn : n ≤ 20) (hL : L ≤ 40) (cs xs : List Int) (hm1 : ¬ m < 1) (hm : 16 < m) (w : World) (hC : GkC A B cs xs w) (hans : Ans 1 (gvl 3 A n c m) 6 B L cb (GkC A B cs xs)) :
    Calls Tryd.prog 4 #[.int .u8 1, gvl 3 A n c m, .slice B L cb] w fun e w' => e = .returned (.bool true) ∧ Below w.heap.size w w' := by
  have hof := Lib.hid hans.of
  have hpl := Lib.hid hans.poly
  have hck := Lib.hid hans.chk
  unfold ChkBy at hck
  unfold OfR at hof
  unfold PlR at hpl
  unfold gvl at hof hpl hck
  clear hans
  have gaw := Lib.hid gawake
  have y1 : ¬ ((20 : Int) < (n : Int)) := by omega
  have y2 : ¬ ((40 : Int) < (L : Int)) := by omega
  unfold gvl
  go_enter Tryd.func4, Tryd.ntmps4
  go_wp2_with fail
  refine name_calls (fun w1 => Below w.heap.size w w1 ∧ w1.heap[w.heap.size]? = some (.cells #[.int .u8 3, .slice A n c, .int .i64 m] 34 (0, 0))) ⟨(Below.refl _ _).alloc (Nat.le_refl _) _, alloc_at rfl⟩ ?_
  rintro w1 ⟨hb, k0⟩
  refine call_then (gaw.out _) ?_
  intro w2 hb2
  replace hb := below_next hb hb.size hb2
  replace k0 := keeps hb2 k0
  clear hb2
  obtain ⟨c0, c1, c2, _⟩ := blk3 k0
  go_wp2_with fail
  clear c0 c1 c2
  refine name_calls (fun w3 => Below w.heap.size w w3 ∧ w3.heap[w.heap.size]? = some (.cells #[.int .u8 3, .slice A n c, .int .i64 m] 34 (0, 0))) ⟨hb, k0⟩ ?_
  clear hb k0
  rintro w3 ⟨hb, k0⟩
  refine (hof.out _ (GkC.up _ _ hb hC)).mono ?_
  rintro e w4 ⟨x, y, e0, rfl, hW1, hb2⟩
  obtain ⟨rfl, rfl, rfl⟩ := hW1 (by decide); clear hW1
  replace hb := below_next hb hb.size hb2
  replace k0 := keeps hb2 k0
  clear hb2 hof
  obtain ⟨c0, c1, c2, _⟩ := blk3 k0
  have l0 := lt_of_get k0
  have l1 : w.heap.size ≠ w4.heap.size := Nat.ne_of_lt l0
  go_wp2_with fail
  have hb5 := (hb.alloc hb.size (.cells #[.int .u64 0, .int .u64 0] 28 (0, 0))).alloc (by simp; exact Nat.le_succ_of_le hb.size) (.cells #[.slice B L cb] 22 (0, 0))
  refine name_calls (fun w5 => Below w.heap.size w w5 ∧ w5.heap[w.heap.size]? = some (.cells #[.int .u8 3, .slice A n c, .int .i64 m] 34 (0, 0)) ∧ w5.heap[w4.heap.size]? = some (.cells #[.int .u64 0, .int .u64 0] 28 (0, 0)) ∧ w5.cell? ⟨w4.heap.size + 1, 0, none⟩ = some (.slice B L cb)) ⟨hb5, alloc_keeps (alloc_keeps k0), alloc_keeps (alloc_at rfl), ?_⟩ ?_
  · have h : ((w4.alloc (.cells #[.int .u64 0, .int .u64 0] 28 (0, 0))).alloc (.cells #[.slice B L cb] 22 (0, 0))).heap[w4.heap.size + 1]? = some (.cells #[.slice B L cb] 22 (0, 0)) := alloc_at (by simp)
    exact slc_cell h
  clear hb k0 c0 c1 c2 hb5 l0 l1
  generalize w4.heap.size + 1 = pb at *
  generalize w4.heap.size = p12 at *
  rintro w5 ⟨hb, k0, k12, kb⟩
  refine (hpl.out _ _ _ (GkC.up _ _ hb hC) kb).mono ?_
  rintro e w6 ⟨A6, L6, e6, rfl, hW2, hb2⟩
  obtain ⟨rfl, rfl, rfl⟩ := hW2 (by decide); clear hW2
  replace hb := below_next hb hb.size hb2
  replace k0 := keeps hb2 k0
  replace k12 := keeps hb2 k12
  clear hb2 hpl kb
  obtain ⟨c0, c1, c2, _⟩ := blk3 k0
  go_wp2_with fail
  clear c0 c1 c2
  refine call_then (hck.out _ (GkC.up _ _ hb hC)) ?_
  intro w7 hb2
  replace hb := below_next hb hb.size hb2
  replace k12 := keeps hb2 k12
  clear hb2 hck k0
  obtain ⟨d0, d1, _, _⟩ := blk2 k12
  skip
  clear hC
  go_wp2
  go_ret
  exact ⟨rfl, hb⟩
set_option maxRecDepth 20000 in
set_option maxHeartbeats 4000000 in
theorem gadgetChecks_par_1 (k m : Int) (A B : Option Addr) (n c L cb : Nat) (hn : n ≤ 20) (hL : L ≤ 40) (cs xs : List Int) (hm1 : ¬ m < 1) (hm2 : ¬ 16 < m) (w : World) (hC : GkC A B cs xs w) (hans : Ans 1 (gvl 3 A n c m) 0 B L cb (GkC A B cs xs)) :
    Calls Tryd.prog 4 #[.int .u8 1, gvl 3 A n c m, .slice B L cb] w fun e w' => e = .returned (.bool true) ∧ Below w.heap.size w w' := by
  have hof := Lib.hid hans.of
  have hpl := Lib.hid hans.poly
  have hck := Lib.hid hans.chk
  unfold ChkBy at hck
  unfold OfR at hof
  unfold PlR at hpl
  unfold gvl at hof hpl hck
  clear hans
  have gaw := Lib.hid gawake
  have y1 : ¬ ((20 : Int) < (n : Int)) := by omega
  have y2 : ¬ ((40 : Int) < (L : Int)) := by omega
  unfold gvl
  go_enter Tryd.func4, Tryd.ntmps4
  go_wp2_with fail
  refine name_calls (fun w1 => Below w.heap.size w w1 ∧ w1.heap[w.heap.size]? = some (.cells #[.int .u8 3, .slice A n c, .int .i64 m] 34 (0, 0))) ⟨(Below.refl _ _).alloc (Nat.le_refl _) _, alloc_at rfl⟩ ?_
  rintro w1 ⟨hb, k0⟩
  refine call_then (gaw.out _) ?_
  intro w2 hb2
  replace hb := below_next hb hb.size hb2
  replace k0 := keeps hb2 k0
  clear hb2
  obtain ⟨c0, c1, c2, _⟩ := blk3 k0
  go_wp2_with fail
  clear c0 c1 c2
  refine name_calls (fun w3 => Below w.heap.size w w3 ∧ w3.heap[w.heap.size]? = some (.cells #[.int .u8 3, .slice A n c, .int .i64 m] 34 (0, 0))) ⟨hb, k0⟩ ?_
  clear hb k0
  rintro w3 ⟨hb, k0⟩
  refine (hof.out _ (GkC.up _ _ hb hC)).mono ?_
  rintro e w4 ⟨x, y, e0, rfl, hW1, hb2⟩
  clear hW1
  replace hb := below_next hb hb.size hb2
  replace k0 := keeps hb2 k0
  clear hb2 hof
  obtain ⟨c0, c1, c2, _⟩ := blk3 k0
  have l0 := lt_of_get k0
  have l1 : w.heap.size ≠ w4.heap.size := Nat.ne_of_lt l0
  go_wp2_with fail
  have hb5 := (hb.alloc hb.size (.cells #[.int .u64 x, .int .u64 y] 28 (0, 0))).alloc (by simp; exact Nat.le_succ_of_le hb.size) (.cells #[.slice B L cb] 22 (0, 0))
  refine name_calls (fun w5 => Below w.heap.size w w5 ∧ w5.heap[w.heap.size]? = some (.cells #[.int .u8 3, .slice A n c, .int .i64 m] 34 (0, 0)) ∧ w5.heap[w4.heap.size]? = some (.cells #[.int .u64 x, .int .u64 y] 28 (0, 0)) ∧ w5.cell? ⟨w4.heap.size + 1, 0, none⟩ = some (.slice B L cb)) ⟨hb5, alloc_keeps (alloc_keeps k0), alloc_keeps (alloc_at rfl), ?_⟩ ?_
  · have h : ((w4.alloc (.cells #[.int .u64 x, .int .u64 y] 28 (0, 0))).alloc (.cells #[.slice B L cb] 22 (0, 0))).heap[w4.heap.size + 1]? = some (.cells #[.slice B L cb] 22 (0, 0)) := alloc_at (by simp)
    exact slc_cell h
  clear hb k0 c0 c1 c2 hb5 l0 l1
  generalize w4.heap.size + 1 = pb at *
  generalize w4.heap.size = p12 at *
  rintro w5 ⟨hb, k0, k12, kb⟩
  refine (hpl.out _ _ _ (GkC.up _ _ hb hC) kb).mono ?_
  rintro e w6 ⟨A6, L6, e6, rfl, hW2, hb2⟩
  clear hW2
  replace hb := below_next hb hb.size hb2
  replace k0 := keeps hb2 k0
  replace k12 := keeps hb2 k12
  clear hb2 hpl kb
  obtain ⟨c0, c1, c2, _⟩ := blk3 k0
  go_wp2_with fail
  clear c0 c1 c2
  refine call_then (hck.out _ (GkC.up _ _ hb hC)) ?_
  intro w7 hb2
  replace hb := below_next hb hb.size hb2
  replace k12 := keeps hb2 k12
  clear hb2 hck k0
  obtain ⟨d0, d1, _, _⟩ := blk2 k12
  skip
  clear hC
  go_wp2
  go_ret
  exact ⟨rfl, hb⟩
set_option maxRecDepth 20000 in
set_option maxHeartbeats 4000000 in
theorem gadgetChecks_kind_1 (k m : Int) (A B : Option Addr) (n c L cb : Nat) (hn : n ≤ 20) (hL : L ≤ 40) (cs xs : List Int) (k1 : (k == 1) = false) (k2 : (k == 2) = false) (k3 : (k == 3) = false) (w : World) (hC : GkC A B cs xs w) (hans : Ans 1 (gvl k A n c m) 10 B L cb (GkC A B cs xs)) :
    Calls Tryd.prog 4 #[.int .u8 1, gvl k A n c m, .slice B L cb] w fun e w' => e = .returned (.bool true) ∧ Below w.heap.size w w' := by
  have hof := Lib.hid hans.of
  have hpl := Lib.hid hans.poly
  have hck := Lib.hid hans.chk
  unfold ChkBy at hck
  unfold OfR at hof
  unfold PlR at hpl
  unfold gvl at hof hpl hck
  clear hans
  have gaw := Lib.hid gawake
  have y1 : ¬ ((20 : Int) < (n : Int)) := by omega
  have y2 : ¬ ((40 : Int) < (L : Int)) := by omega
  unfold gvl
  go_enter Tryd.func4, Tryd.ntmps4
  go_wp2_with fail
  refine name_calls (fun w1 => Below w.heap.size w w1 ∧ w1.heap[w.heap.size]? = some (.cells #[.int .u8 k, .slice A n c, .int .i64 m] 34 (0, 0))) ⟨(Below.refl _ _).alloc (Nat.le_refl _) _, alloc_at rfl⟩ ?_
  rintro w1 ⟨hb, k0⟩
  refine call_then (gaw.out _) ?_
  intro w2 hb2
  replace hb := below_next hb hb.size hb2
  replace k0 := keeps hb2 k0
  clear hb2
  obtain ⟨c0, c1, c2, _⟩ := blk3 k0
  go_wp2_with fail
  clear c0 c1 c2
  refine name_calls (fun w3 => Below w.heap.size w w3 ∧ w3.heap[w.heap.size]? = some (.cells #[.int .u8 k, .slice A n c, .int .i64 m] 34 (0, 0))) ⟨hb, k0⟩ ?_
  clear hb k0
  rintro w3 ⟨hb, k0⟩
  refine (hof.out _ (GkC.up _ _ hb hC)).mono ?_
  rintro e w4 ⟨x, y, e0, rfl, hW1, hb2⟩
  obtain ⟨rfl, rfl, rfl⟩ := hW1 (by decide); clear hW1
  replace hb := below_next hb hb.size hb2
  replace k0 := keeps hb2 k0
  clear hb2 hof
  obtain ⟨c0, c1, c2, _⟩ := blk3 k0
  have l0 := lt_of_get k0
  have l1 : w.heap.size ≠ w4.heap.size := Nat.ne_of_lt l0
  go_wp2_with fail
  have hb5 := (hb.alloc hb.size (.cells #[.int .u64 0, .int .u64 0] 28 (0, 0))).alloc (by simp; exact Nat.le_succ_of_le hb.size) (.cells #[.slice B L cb] 22 (0, 0))
  refine name_calls (fun w5 => Below w.heap.size w w5 ∧ w5.heap[w.heap.size]? = some (.cells #[.int .u8 k, .slice A n c, .int .i64 m] 34 (0, 0)) ∧ w5.heap[w4.heap.size]? = some (.cells #[.int .u64 0, .int .u64 0] 28 (0, 0)) ∧ w5.cell? ⟨w4.heap.size + 1, 0, none⟩ = some (.slice B L cb)) ⟨hb5, alloc_keeps (alloc_keeps k0), alloc_keeps (alloc_at rfl), ?_⟩ ?_
  · have h : ((w4.alloc (.cells #[.int .u64 0, .int .u64 0] 28 (0, 0))).alloc (.cells #[.slice B L cb] 22 (0, 0))).heap[w4.heap.size + 1]? = some (.cells #[.slice B L cb] 22 (0, 0)) := alloc_at (by simp)
    exact slc_cell h
  clear hb k0 c0 c1 c2 hb5 l0 l1
  generalize w4.heap.size + 1 = pb at *
  generalize w4.heap.size = p12 at *
  rintro w5 ⟨hb, k0, k12, kb⟩
  refine (hpl.out _ _ _ (GkC.up _ _ hb hC) kb).mono ?_
  rintro e w6 ⟨A6, L6, e6, rfl, hW2, hb2⟩
  obtain ⟨rfl, rfl, rfl⟩ := hW2 (by decide); clear hW2
  replace hb := below_next hb hb.size hb2
  replace k0 := keeps hb2 k0
  replace k12 := keeps hb2 k12
  clear hb2 hpl kb
  obtain ⟨c0, c1, c2, _⟩ := blk3 k0
  go_wp2_with fail
  clear c0 c1 c2
  refine call_then (hck.out _ (GkC.up _ _ hb hC)) ?_
  intro w7 hb2
  replace hb := below_next hb hb.size hb2
  replace k12 := keeps hb2 k12
  clear hb2 hck k0
  obtain ⟨d0, d1, _, _⟩ := blk2 k12
  skip
  clear hC
  go_wp2
  go_ret
  exact ⟨rfl, hb⟩
set_option maxRecDepth 20000 in
set_option maxHeartbeats 4000000 in
theorem gadgetChecks_few_1 (k m : Int) (A B : Option Addr) (n c L cb : Nat) (hn : n ≤ 20) (hL : L ≤ 40) (cs xs : List Int) (hm : (n : Int) < 2) (w : World) (hC : GkC A B cs xs w) (hans : Ans 1 (gvl 2 A n c m) 9 B L cb (GkC A B cs xs)) :
    Calls Tryd.prog 4 #[.int .u8 1, gvl 2 A n c m, .slice B L cb] w fun e w' => e = .returned (.bool true) ∧ Below w.heap.size w w' := by
  have hof := Lib.hid hans.of
  have hpl := Lib.hid hans.poly
  have hck := Lib.hid hans.chk
  unfold ChkBy at hck
  unfold OfR at hof
  unfold PlR at hpl
  unfold gvl at hof hpl hck
  clear hans
  have gaw := Lib.hid gawake
  have y1 : ¬ ((20 : Int) < (n : Int)) := by omega
  have y2 : ¬ ((40 : Int) < (L : Int)) := by omega
  unfold gvl
  go_enter Tryd.func4, Tryd.ntmps4
  go_wp2_with fail
  refine name_calls (fun w1 => Below w.heap.size w w1 ∧ w1.heap[w.heap.size]? = some (.cells #[.int .u8 2, .slice A n c, .int .i64 m] 34 (0, 0))) ⟨(Below.refl _ _).alloc (Nat.le_refl _) _, alloc_at rfl⟩ ?_
  rintro w1 ⟨hb, k0⟩
  refine call_then (gaw.out _) ?_
  intro w2 hb2
  replace hb := below_next hb hb.size hb2
  replace k0 := keeps hb2 k0
  clear hb2
  obtain ⟨c0, c1, c2, _⟩ := blk3 k0
  go_wp2_with fail
  clear c0 c1 c2
  refine name_calls (fun w3 => Below w.heap.size w w3 ∧ w3.heap[w.heap.size]? = some (.cells #[.int .u8 2, .slice A n c, .int .i64 m] 34 (0, 0))) ⟨hb, k0⟩ ?_
  clear hb k0
  rintro w3 ⟨hb, k0⟩
  refine (hof.out _ (GkC.up _ _ hb hC)).mono ?_
  rintro e w4 ⟨x, y, e0, rfl, hW1, hb2⟩
  obtain ⟨rfl, rfl, rfl⟩ := hW1 (by decide); clear hW1
  replace hb := below_next hb hb.size hb2
  replace k0 := keeps hb2 k0
  clear hb2 hof
  obtain ⟨c0, c1, c2, _⟩ := blk3 k0
  have l0 := lt_of_get k0
  have l1 : w.heap.size ≠ w4.heap.size := Nat.ne_of_lt l0
  go_wp2_with fail
  have hb5 := (hb.alloc hb.size (.cells #[.int .u64 0, .int .u64 0] 28 (0, 0))).alloc (by simp; exact Nat.le_succ_of_le hb.size) (.cells #[.slice B L cb] 22 (0, 0))
  refine name_calls (fun w5 => Below w.heap.size w w5 ∧ w5.heap[w.heap.size]? = some (.cells #[.int .u8 2, .slice A n c, .int .i64 m] 34 (0, 0)) ∧ w5.heap[w4.heap.size]? = some (.cells #[.int .u64 0, .int .u64 0] 28 (0, 0)) ∧ w5.cell? ⟨w4.heap.size + 1, 0, none⟩ = some (.slice B L cb)) ⟨hb5, alloc_keeps (alloc_keeps k0), alloc_keeps (alloc_at rfl), ?_⟩ ?_
  · have h : ((w4.alloc (.cells #[.int .u64 0, .int .u64 0] 28 (0, 0))).alloc (.cells #[.slice B L cb] 22 (0, 0))).heap[w4.heap.size + 1]? = some (.cells #[.slice B L cb] 22 (0, 0)) := alloc_at (by simp)
    exact slc_cell h
  clear hb k0 c0 c1 c2 hb5 l0 l1
  generalize w4.heap.size + 1 = pb at *
  generalize w4.heap.size = p12 at *
  rintro w5 ⟨hb, k0, k12, kb⟩
  refine (hpl.out _ _ _ (GkC.up _ _ hb hC) kb).mono ?_
  rintro e w6 ⟨A6, L6, e6, rfl, hW2, hb2⟩
  obtain ⟨rfl, rfl, rfl⟩ := hW2 (by decide); clear hW2
  replace hb := below_next hb hb.size hb2
  replace k0 := keeps hb2 k0
  replace k12 := keeps hb2 k12
  clear hb2 hpl kb
  obtain ⟨c0, c1, c2, _⟩ := blk3 k0
  go_wp2_with fail
  clear c0 c1 c2
  refine call_then (hck.out _ (GkC.up _ _ hb hC)) ?_
  intro w7 hb2
  replace hb := below_next hb hb.size hb2
  replace k12 := keeps hb2 k12
  clear hb2 hck k0
  obtain ⟨d0, d1, _, _⟩ := blk2 k12
  skip
  clear hC
  go_wp2
  go_ret
  exact ⟨rfl, hb⟩
set_option maxRecDepth 20000 in
set_option maxHeartbeats 4000000 in
theorem gadgetChecks_many_1 (k m : Int) (A B : Option Addr) (n c L cb : Nat) (hn : n ≤ 20) (hL : L ≤ 40) (cs xs : List Int) (hm1 : ¬ (n : Int) < 2) (hm : (4 : Int) < (n : Int)) (w : World) (hC : GkC A B cs xs w) (hans : Ans 1 (gvl 2 A n c m) 9 B L cb (GkC A B cs xs)) :
    Calls Tryd.prog 4 #[.int .u8 1, gvl 2 A n c m, .slice B L cb] w fun e w' => e = .returned (.bool true) ∧ Below w.heap.size w w' := by
  have hof := Lib.hid hans.of
  have hpl := Lib.hid hans.poly
  have hck := Lib.hid hans.chk
  unfold ChkBy at hck
  unfold OfR at hof
  unfold PlR at hpl
  unfold gvl at hof hpl hck
  clear hans
  have gaw := Lib.hid gawake
  have y1 : ¬ ((20 : Int) < (n : Int)) := by omega
  have y2 : ¬ ((40 : Int) < (L : Int)) := by omega
  unfold gvl
  go_enter Tryd.func4, Tryd.ntmps4
  go_wp2_with fail
  refine name_calls (fun w1 => Below w.heap.size w w1 ∧ w1.heap[w.heap.size]? = some (.cells #[.int .u8 2, .slice A n c, .int .i64 m] 34 (0, 0))) ⟨(Below.refl _ _).alloc (Nat.le_refl _) _, alloc_at rfl⟩ ?_
  rintro w1 ⟨hb, k0⟩
  refine call_then (gaw.out _) ?_
  intro w2 hb2
  replace hb := below_next hb hb.size hb2
  replace k0 := keeps hb2 k0
  clear hb2
  obtain ⟨c0, c1, c2, _⟩ := blk3 k0
  go_wp2_with fail
  clear c0 c1 c2
  refine name_calls (fun w3 => Below w.heap.size w w3 ∧ w3.heap[w.heap.size]? = some (.cells #[.int .u8 2, .slice A n c, .int .i64 m] 34 (0, 0))) ⟨hb, k0⟩ ?_
  clear hb k0
  rintro w3 ⟨hb, k0⟩
  refine (hof.out _ (GkC.up _ _ hb hC)).mono ?_
  rintro e w4 ⟨x, y, e0, rfl, hW1, hb2⟩
  obtain ⟨rfl, rfl, rfl⟩ := hW1 (by decide); clear hW1
  replace hb := below_next hb hb.size hb2
  replace k0 := keeps hb2 k0
  clear hb2 hof
  obtain ⟨c0, c1, c2, _⟩ := blk3 k0
  have l0 := lt_of_get k0
  have l1 : w.heap.size ≠ w4.heap.size := Nat.ne_of_lt l0
  go_wp2_with fail
  have hb5 := (hb.alloc hb.size (.cells #[.int .u64 0, .int .u64 0] 28 (0, 0))).alloc (by simp; exact Nat.le_succ_of_le hb.size) (.cells #[.slice B L cb] 22 (0, 0))
  refine name_calls (fun w5 => Below w.heap.size w w5 ∧ w5.heap[w.heap.size]? = some (.cells #[.int .u8 2, .slice A n c, .int .i64 m] 34 (0, 0)) ∧ w5.heap[w4.heap.size]? = some (.cells #[.int .u64 0, .int .u64 0] 28 (0, 0)) ∧ w5.cell? ⟨w4.heap.size + 1, 0, none⟩ = some (.slice B L cb)) ⟨hb5, alloc_keeps (alloc_keeps k0), alloc_keeps (alloc_at rfl), ?_⟩ ?_
  · have h : ((w4.alloc (.cells #[.int .u64 0, .int .u64 0] 28 (0, 0))).alloc (.cells #[.slice B L cb] 22 (0, 0))).heap[w4.heap.size + 1]? = some (.cells #[.slice B L cb] 22 (0, 0)) := alloc_at (by simp)
    exact slc_cell h
  clear hb k0 c0 c1 c2 hb5 l0 l1
  generalize w4.heap.size + 1 = pb at *
  generalize w4.heap.size = p12 at *
  rintro w5 ⟨hb, k0, k12, kb⟩
  refine (hpl.out _ _ _ (GkC.up _ _ hb hC) kb).mono ?_
  rintro e w6 ⟨A6, L6, e6, rfl, hW2, hb2⟩
  obtain ⟨rfl, rfl, rfl⟩ := hW2 (by decide); clear hW2
  replace hb := below_next hb hb.size hb2
  replace k0 := keeps hb2 k0
  replace k12 := keeps hb2 k12
  clear hb2 hpl kb
  obtain ⟨c0, c1, c2, _⟩ := blk3 k0
  go_wp2_with fail
  clear c0 c1 c2
  refine call_then (hck.out _ (GkC.up _ _ hb hC)) ?_
  intro w7 hb2
  replace hb := below_next hb hb.size hb2
  replace k12 := keeps hb2 k12
  clear hb2 hck k0
  obtain ⟨d0, d1, _, _⟩ := blk2 k12
  skip
  clear hC
  go_wp2
  go_ret
  exact ⟨rfl, hb⟩
set_option maxRecDepth 20000 in
set_option maxHeartbeats 4000000 in
theorem gadgetChecks_mul_2 (k m : Int) (A B : Option Addr) (n c L cb : Nat) (hn : n ≤ 20) (hL : L ≤ 40) (cs xs : List Int) (hz : True) (w : World) (hC : GkC A B cs xs w) (hans : Ans 2 (gvl 1 A n c m) 0 B L cb (GkC A B cs xs)) :
    Calls Tryd.prog 4 #[.int .u8 2, gvl 1 A n c m, .slice B L cb] w fun e w' => e = .returned (.bool true) ∧ Below w.heap.size w w' := by
  have hof := Lib.hid hans.of
  have hpl := Lib.hid hans.poly
  have hck := Lib.hid hans.chk
  unfold ChkBy at hck
  unfold OfR at hof
  unfold PlR at hpl
  unfold gvl at hof hpl hck
  clear hans
  have gaw := Lib.hid gawake
  have y1 : ¬ ((20 : Int) < (n : Int)) := by omega
  have y2 : ¬ ((40 : Int) < (L : Int)) := by omega
  unfold gvl
  go_enter Tryd.func4, Tryd.ntmps4
  go_wp2_with fail
  refine name_calls (fun w1 => Below w.heap.size w w1 ∧ w1.heap[w.heap.size]? = some (.cells #[.int .u8 1, .slice A n c, .int .i64 m] 34 (0, 0))) ⟨(Below.refl _ _).alloc (Nat.le_refl _) _, alloc_at rfl⟩ ?_
  rintro w1 ⟨hb, k0⟩
  refine call_then (gaw.out _) ?_
  intro w2 hb2
  replace hb := below_next hb hb.size hb2
  replace k0 := keeps hb2 k0
  clear hb2
  obtain ⟨c0, c1, c2, _⟩ := blk3 k0
  go_wp2_with fail
  clear c0 c1 c2
  refine name_calls (fun w3 => Below w.heap.size w w3 ∧ w3.heap[w.heap.size]? = some (.cells #[.int .u8 1, .slice A n c, .int .i64 m] 34 (0, 0))) ⟨hb, k0⟩ ?_
  clear hb k0
  rintro w3 ⟨hb, k0⟩
  refine (hof.out _ (GkC.up _ _ hb hC)).mono ?_
  rintro e w4 ⟨x, y, e0, rfl, hW1, hb2⟩
  clear hW1
  replace hb := below_next hb hb.size hb2
  replace k0 := keeps hb2 k0
  clear hb2 hof
  obtain ⟨c0, c1, c2, _⟩ := blk3 k0
  have l0 := lt_of_get k0
  have l1 : w.heap.size ≠ w4.heap.size := Nat.ne_of_lt l0
  go_wp2_with fail
  have hb5 := (hb.alloc hb.size (.cells #[.int .u64 x, .int .u64 y] 28 (0, 0))).alloc (by simp; exact Nat.le_succ_of_le hb.size) (.cells #[.slice B L cb] 22 (0, 0))
  refine name_calls (fun w5 => Below w.heap.size w w5 ∧ w5.heap[w.heap.size]? = some (.cells #[.int .u8 1, .slice A n c, .int .i64 m] 34 (0, 0)) ∧ w5.heap[w4.heap.size]? = some (.cells #[.int .u64 x, .int .u64 y] 28 (0, 0)) ∧ w5.cell? ⟨w4.heap.size + 1, 0, none⟩ = some (.slice B L cb)) ⟨hb5, alloc_keeps (alloc_keeps k0), alloc_keeps (alloc_at rfl), ?_⟩ ?_
  · have h : ((w4.alloc (.cells #[.int .u64 x, .int .u64 y] 28 (0, 0))).alloc (.cells #[.slice B L cb] 22 (0, 0))).heap[w4.heap.size + 1]? = some (.cells #[.slice B L cb] 22 (0, 0)) := alloc_at (by simp)
    exact slc_cell h
  clear hb k0 c0 c1 c2 hb5 l0 l1
  generalize w4.heap.size + 1 = pb at *
  generalize w4.heap.size = p12 at *
  rintro w5 ⟨hb, k0, k12, kb⟩
  refine (hpl.out _ _ _ (GkC.up _ _ hb hC) kb).mono ?_
  rintro e w6 ⟨A6, L6, e6, rfl, hW2, hb2⟩
  clear hW2
  replace hb := below_next hb hb.size hb2
  replace k0 := keeps hb2 k0
  replace k12 := keeps hb2 k12
  clear hb2 hpl kb
  obtain ⟨c0, c1, c2, _⟩ := blk3 k0
  go_wp2_with fail
  clear c0 c1 c2
  refine call_then (hck.out _ (GkC.up _ _ hb hC)) ?_
  intro w7 hb2
  replace hb := below_next hb hb.size hb2
  replace k12 := keeps hb2 k12
  clear hb2 hck k0
  obtain ⟨d0, d1, _, _⟩ := blk2 k12
  skip
  clear hC
  go_wp2
  go_ret
  exact ⟨rfl, hb⟩
set_option maxRecDepth 20000 in
set_option maxHeartbeats 4000000 in
theorem gadgetChecks_low_2 (k m : Int) (A B : Option Addr) (n c L cb : Nat) (hn : n ≤ 20) (hL : L ≤ 40) (cs xs : List Int) (hm : m < 1) (w : World) (hC : GkC A B cs xs w) (hans : Ans 2 (gvl 3 A n c m) 6 B L cb (GkC A B cs xs)) :
    Calls Tryd.prog 4 #[.int .u8 2, gvl 3 A n c m, .slice B L cb] w fun e w' => e = .returned (.bool true) ∧ Below w.heap.size w w' := by
  have hof := Lib.hid hans.of
  have hpl := Lib.hid hans.poly
  have hck := Lib.hid hans.chk
  unfold ChkBy at hck
  unfold OfR at hof
  unfold PlR at hpl
  unfold gvl at hof hpl hck
  clear hans
  have gaw := Lib.hid gawake
  have y1 : ¬ ((20 : Int) < (n : Int)) := by omega
  have y2 : ¬ ((40 : Int) < (L : Int)) := by omega
  unfold gvl
  go_enter Tryd.func4, Tryd.ntmps4
  go_wp2_with fail
  refine name_calls (fun w1 => Below w.heap.size w w1 ∧ w1.heap[w.heap.size]? = some (.cells #[.int .u8 3, .slice A n c, .int .i64 m] 34 (0, 0))) ⟨(Below.refl _ _).alloc (Nat.le_refl _) _, alloc_at rfl⟩ ?_
  rintro w1 ⟨hb, k0⟩
  refine call_then (gaw.out _) ?_
  intro w2 hb2
  replace hb := below_next hb hb.size hb2
  replace k0 := keeps hb2 k0
  clear hb2
  obtain ⟨c0, c1, c2, _⟩ := blk3 k0
  go_wp2_with fail
  clear c0 c1 c2
  refine name_calls (fun w3 => Below w.heap.size w w3 ∧ w3.heap[w.heap.size]? = some (.cells #[.int .u8 3, .slice A n c, .int .i64 m] 34 (0, 0))) ⟨hb, k0⟩ ?_
  clear hb k0
  rintro w3 ⟨hb, k0⟩
  refine (hof.out _ (GkC.up _ _ hb hC)).mono ?_
  rintro e w4 ⟨x, y, e0, rfl, hW1, hb2⟩
  obtain ⟨rfl, rfl, rfl⟩ := hW1 (by decide); clear hW1
  replace hb := below_next hb hb.size hb2
  replace k0 := keeps hb2 k0
  clear hb2 hof
  obtain ⟨c0, c1, c2, _⟩ := blk3 k0
  have l0 := lt_of_get k0
  have l1 : w.heap.size ≠ w4.heap.size := Nat.ne_of_lt l0
  go_wp2_with fail
  have hb5 := (hb.alloc hb.size (.cells #[.int .u64 0, .int .u64 0] 28 (0, 0))).alloc (by simp; exact Nat.le_succ_of_le hb.size) (.cells #[.slice B L cb] 22 (0, 0))
  refine name_calls (fun w5 => Below w.heap.size w w5 ∧ w5.heap[w.heap.size]? = some (.cells #[.int .u8 3, .slice A n c, .int .i64 m] 34 (0, 0)) ∧ w5.heap[w4.heap.size]? = some (.cells #[.int .u64 0, .int .u64 0] 28 (0, 0)) ∧ w5.cell? ⟨w4.heap.size + 1, 0, none⟩ = some (.slice B L cb)) ⟨hb5, alloc_keeps (alloc_keeps k0), alloc_keeps (alloc_at rfl), ?_⟩ ?_
  · have h : ((w4.alloc (.cells #[.int .u64 0, .int .u64 0] 28 (0, 0))).alloc (.cells #[.slice B L cb] 22 (0, 0))).heap[w4.heap.size + 1]? = some (.cells #[.slice B L cb] 22 (0, 0)) := alloc_at (by simp)
    exact slc_cell h
  clear hb k0 c0 c1 c2 hb5 l0 l1
  generalize w4.heap.size + 1 = pb at *
  generalize w4.heap.size = p12 at *
  rintro w5 ⟨hb, k0, k12, kb⟩
  refine (hpl.out _ _ _ (GkC.up _ _ hb hC) kb).mono ?_
  rintro e w6 ⟨A6, L6, e6, rfl, hW2, hb2⟩
  obtain ⟨rfl, rfl, rfl⟩ := hW2 (by decide); clear hW2
  replace hb := below_next hb hb.size hb2
  replace k0 := keeps hb2 k0
  replace k12 := keeps hb2 k12
  clear hb2 hpl kb
  obtain ⟨c0, c1, c2, _⟩ := blk3 k0
  go_wp2_with fail
  clear c0 c1 c2
  refine call_then (hck.out _ (GkC.up _ _ hb hC)) ?_
  intro w7 hb2
  replace hb := below_next hb hb.size hb2
  replace k12 := keeps hb2 k12
  clear hb2 hck k0
  obtain ⟨d0, d1, _, _⟩ := blk2 k12
  skip
  clear hC
  go_wp2
  go_ret
  exact ⟨rfl, hb⟩
set_option maxRecDepth 20000 in
set_option maxHeartbeats 4000000 in
theorem gadgetChecks_high_2 (k m : Int) (A B : Option Addr) (n c L cb : Nat) (hn : n ≤ 20) (hL : L ≤ 40) (cs xs : List Int) (hm1 : ¬ m < 1) (hm : 16 < m) (w : World) (hC : GkC A B cs xs w) (hans : Ans 2 (gvl 3 A n c m) 6 B L cb (GkC A B cs xs)) :
    Calls Tryd.prog 4 #[.int .u8 2, gvl 3 A n c m, .slice B L cb] w fun e w' => e = .returned (.bool true) ∧ Below w.heap.size w w' := by
  have hof := Lib.hid hans.of
  have hpl := Lib.hid hans.poly
  have hck := Lib.hid hans.chk
  unfold ChkBy at hck
  unfold OfR at hof
  unfold PlR at hpl
  unfold gvl at hof hpl hck
  clear hans
  have gaw := Lib.hid gawake
  have y1 : ¬ ((20 : Int) < (n : Int)) := by omega
  have y2 : ¬ ((40 : Int) < (L : Int)) := by omega
  unfold gvl
  go_enter Tryd.func4, Tryd.ntmps4
  go_wp2_with fail
  refine name_calls (fun w1 => Below w.heap.size w w1 ∧ w1.heap[w.heap.size]? = some (.cells #[.int .u8 3, .slice A n c, .int .i64 m] 34 (0, 0))) ⟨(Below.refl _ _).alloc (Nat.le_refl _) _, alloc_at rfl⟩ ?_
  rintro w1 ⟨hb, k0⟩
  refine call_then (gaw.out _) ?_
  intro w2 hb2
  replace hb := below_next hb hb.size hb2
  replace k0 := keeps hb2 k0
  clear hb2
  obtain ⟨c0, c1, c2, _⟩ := blk3 k0
  go_wp2_with fail
  clear c0 c1 c2
  refine name_calls (fun w3 => Below w.heap.size w w3 ∧ w3.heap[w.heap.size]? = some (.cells #[.int .u8 3, .slice A n c, .int .i64 m] 34 (0, 0))) ⟨hb, k0⟩ ?_
  clear hb k0
  rintro w3 ⟨hb, k0⟩
  refine (hof.out _ (GkC.up _ _ hb hC)).mono ?_
  rintro e w4 ⟨x, y, e0, rfl, hW1, hb2⟩
  obtain ⟨rfl, rfl, rfl⟩ := hW1 (by decide); clear hW1
  replace hb := below_next hb hb.size hb2
  replace k0 := keeps hb2 k0
  clear hb2 hof
  obtain ⟨c0, c1, c2, _⟩ := blk3 k0
  have l0 := lt_of_get k0
  have l1 : w.heap.size ≠ w4.heap.size := Nat.ne_of_lt l0
  go_wp2_with fail
  have hb5 := (hb.alloc hb.size (.cells #[.int .u64 0, .int .u64 0] 28 (0, 0))).alloc (by simp; exact Nat.le_succ_of_le hb.size) (.cells #[.slice B L cb] 22 (0, 0))
  refine name_calls (fun w5 => Below w.heap.size w w5 ∧ w5.heap[w.heap.size]? = some (.cells #[.int .u8 3, .slice A n c, .int .i64 m] 34 (0, 0)) ∧ w5.heap[w4.heap.size]? = some (.cells #[.int .u64 0, .int .u64 0] 28 (0, 0)) ∧ w5.cell? ⟨w4.heap.size + 1, 0, none⟩ = some (.slice B L cb)) ⟨hb5, alloc_keeps (alloc_keeps k0), alloc_keeps (alloc_at rfl), ?_⟩ ?_
  · have h : ((w4.alloc (.cells #[.int .u64 0, .int .u64 0] 28 (0, 0))).alloc (.cells #[.slice B L cb] 22 (0, 0))).heap[w4.heap.size + 1]? = some (.cells #[.slice B L cb] 22 (0, 0)) := alloc_at (by simp)
    exact slc_cell h
  clear hb k0 c0 c1 c2 hb5 l0 l1
  generalize w4.heap.size + 1 = pb at *
  generalize w4.heap.size = p12 at *
  rintro w5 ⟨hb, k0, k12, kb⟩
  refine (hpl.out _ _ _ (GkC.up _ _ hb hC) kb).mono ?_
  rintro e w6 ⟨A6, L6, e6, rfl, hW2, hb2⟩
  obtain ⟨rfl, rfl, rfl⟩ := hW2 (by decide); clear hW2
  replace hb := below_next hb hb.size hb2
  replace k0 := keeps hb2 k0
  replace k12 := keeps hb2 k12
  clear hb2 hpl kb
  obtain ⟨c0, c1, c2, _⟩ := blk3 k0
  go_wp2_with fail
  clear c0 c1 c2
  refine call_then (hck.out _ (GkC.up _ _ hb hC)) ?_
  intro w7 hb2
  replace hb := below_next hb hb.size hb2
  replace k12 := keeps hb2 k12
  clear hb2 hck k0
  obtain ⟨d0, d1, _, _⟩ := blk2 k12
  skip
  clear hC
  go_wp2
  go_ret
  exact ⟨rfl, hb⟩
set_option maxRecDepth 20000 in
set_option maxHeartbeats 4000000 in
theorem gadgetChecks_par_2 (k m : Int) (A B : Option Addr) (n c L cb : Nat) (hn : n ≤ 20) (hL : L ≤ 40) (cs xs : List Int) (hm1 : ¬ m < 1) (hm2 : ¬ 16 < m) (w : World) (hC : GkC A B cs xs w) (hans : Ans 2 (gvl 3 A n c m) 0 B L cb (GkC A B cs xs)) :
    Calls Tryd.prog 4 #[.int .u8 2, gvl 3 A n c m, .slice B L cb] w fun e w' => e = .returned (.bool true) ∧ Below w.heap.size w w' := by
  have hof := Lib.hid hans.of
  have hpl := Lib.hid hans.poly
  have hck := Lib.hid hans.chk
  unfold ChkBy at hck
  unfold OfR at hof
  unfold PlR at hpl
  unfold gvl at hof hpl hck
  clear hans
  have gaw := Lib.hid gawake
  have y1 : ¬ ((20 : Int) < (n : Int)) := by omega
  have y2 : ¬ ((40 : Int) < (L : Int)) := by omega
  unfold gvl
  go_enter Tryd.func4, Tryd.ntmps4
  go_wp2_with fail
  refine name_calls (fun w1 => Below w.heap.size w w1 ∧ w1.heap[w.heap.size]? = some (.cells #[.int .u8 3, .slice A n c, .int .i64 m] 34 (0, 0))) ⟨(Below.refl _ _).alloc (Nat.le_refl _) _, alloc_at rfl⟩ ?_
  rintro w1 ⟨hb, k0⟩
  refine call_then (gaw.out _) ?_
  intro w2 hb2
  replace hb := below_next hb hb.size hb2
  replace k0 := keeps hb2 k0
  clear hb2
  obtain ⟨c0, c1, c2, _⟩ := blk3 k0
  go_wp2_with fail
  clear c0 c1 c2
  refine name_calls (fun w3 => Below w.heap.size w w3 ∧ w3.heap[w.heap.size]? = some (.cells #[.int .u8 3, .slice A n c, .int .i64 m] 34 (0, 0))) ⟨hb, k0⟩ ?_
  clear hb k0
  rintro w3 ⟨hb, k0⟩
  refine (hof.out _ (GkC.up _ _ hb hC)).mono ?_
  rintro e w4 ⟨x, y, e0, rfl, hW1, hb2⟩
  clear hW1
  replace hb := below_next hb hb.size hb2
  replace k0 := keeps hb2 k0
  clear hb2 hof
  obtain ⟨c0, c1, c2, _⟩ := blk3 k0
  have l0 := lt_of_get k0
  have l1 : w.heap.size ≠ w4.heap.size := Nat.ne_of_lt l0
  go_wp2_with fail
  have hb5 := (hb.alloc hb.size (.cells #[.int .u64 x, .int .u64 y] 28 (0, 0))).alloc (by simp; exact Nat.le_succ_of_le hb.size) (.cells #[.slice B L cb] 22 (0, 0))
  refine name_calls (fun w5 => Below w.heap.size w w5 ∧ w5.heap[w.heap.size]? = some (.cells #[.int .u8 3, .slice A n c, .int .i64 m] 34 (0, 0)) ∧ w5.heap[w4.heap.size]? = some (.cells #[.int .u64 x, .int .u64 y] 28 (0, 0)) ∧ w5.cell? ⟨w4.heap.size + 1, 0, none⟩ = some (.slice B L cb)) ⟨hb5, alloc_keeps (alloc_keeps k0), alloc_keeps (alloc_at rfl), ?_⟩ ?_
  · have h : ((w4.alloc (.cells #[.int .u64 x, .int .u64 y] 28 (0, 0))).alloc (.cells #[.slice B L cb] 22 (0, 0))).heap[w4.heap.size + 1]? = some (.cells #[.slice B L cb] 22 (0, 0)) := alloc_at (by simp)
    exact slc_cell h
  clear hb k0 c0 c1 c2 hb5 l0 l1
  generalize w4.heap.size + 1 = pb at *
  generalize w4.heap.size = p12 at *
  rintro w5 ⟨hb, k0, k12, kb⟩
  refine (hpl.out _ _ _ (GkC.up _ _ hb hC) kb).mono ?_
  rintro e w6 ⟨A6, L6, e6, rfl, hW2, hb2⟩
  clear hW2
  replace hb := below_next hb hb.size hb2
  replace k0 := keeps hb2 k0
  replace k12 := keeps hb2 k12
  clear hb2 hpl kb
  obtain ⟨c0, c1, c2, _⟩ := blk3 k0
  go_wp2_with fail
  clear c0 c1 c2
  refine call_then (hck.out _ (GkC.up _ _ hb hC)) ?_
  intro w7 hb2
  replace hb := below_next hb hb.size hb2
  replace k12 := keeps hb2 k12
  clear hb2 hck k0
  obtain ⟨d0, d1, _, _⟩ := blk2 k12
  skip
  clear hC
  go_wp2
  go_ret
  exact ⟨rfl, hb⟩
set_option maxRecDepth 20000 in
set_option maxHeartbeats 4000000 in
theorem gadgetChecks_kind_2 (k m : Int) (A B : Option Addr) (n c L cb : Nat) (hn : n ≤ 20) (hL : L ≤ 40) (cs xs : List Int) (k1 : (k == 1) = false) (k2 : (k == 2) = false) (k3 : (k == 3) = false) (w : World) (hC : GkC A B cs xs w) (hans : Ans 2 (gvl k A n c m) 10 B L cb (GkC A B cs xs)) :
    Calls Tryd.prog 4 #[.int .u8 2, gvl k A n c m, .slice B L cb] w fun e w' => e = .returned (.bool true) ∧ Below w.heap.size w w' := by
  have hof := Lib.hid hans.of
  have hpl := Lib.hid hans.poly
  have hck := Lib.hid hans.chk
  unfold ChkBy at hck
  unfold OfR at hof
  unfold PlR at hpl
  unfold gvl at hof hpl hck
  clear hans
  have gaw := Lib.hid gawake
  have y1 : ¬ ((20 : Int) < (n : Int)) := by omega
  have y2 : ¬ ((40 : Int) < (L : Int)) := by omega
  unfold gvl
  go_enter Tryd.func4, Tryd.ntmps4
  go_wp2_with fail
  refine name_calls (fun w1 => Below w.heap.size w w1 ∧ w1.heap[w.heap.size]? = some (.cells #[.int .u8 k, .slice A n c, .int .i64 m] 34 (0, 0))) ⟨(Below.refl _ _).alloc (Nat.le_refl _) _, alloc_at rfl⟩ ?_
  rintro w1 ⟨hb, k0⟩
  refine call_then (gaw.out _) ?_
  intro w2 hb2
  replace hb := below_next hb hb.size hb2
  replace k0 := keeps hb2 k0
  clear hb2
  obtain ⟨c0, c1, c2, _⟩ := blk3 k0
  go_wp2_with fail
  clear c0 c1 c2
  refine name_calls (fun w3 => Below w.heap.size w w3 ∧ w3.heap[w.heap.size]? = some (.cells #[.int .u8 k, .slice A n c, .int .i64 m] 34 (0, 0))) ⟨hb, k0⟩ ?_
  clear hb k0
  rintro w3 ⟨hb, k0⟩
  refine (hof.out _ (GkC.up _ _ hb hC)).mono ?_
  rintro e w4 ⟨x, y, e0, rfl, hW1, hb2⟩
  obtain ⟨rfl, rfl, rfl⟩ := hW1 (by decide); clear hW1
  replace hb := below_next hb hb.size hb2
  replace k0 := keeps hb2 k0
  clear hb2 hof
  obtain ⟨c0, c1, c2, _⟩ := blk3 k0
  have l0 := lt_of_get k0
  have l1 : w.heap.size ≠ w4.heap.size := Nat.ne_of_lt l0
  go_wp2_with fail
  have hb5 := (hb.alloc hb.size (.cells #[.int .u64 0, .int .u64 0] 28 (0, 0))).alloc (by simp; exact Nat.le_succ_of_le hb.size) (.cells #[.slice B L cb] 22 (0, 0))
  refine name_calls (fun w5 => Below w.heap.size w w5 ∧ w5.heap[w.heap.size]? = some (.cells #[.int .u8 k, .slice A n c, .int .i64 m] 34 (0, 0)) ∧ w5.heap[w4.heap.size]? = some (.cells #[.int .u64 0, .int .u64 0] 28 (0, 0)) ∧ w5.cell? ⟨w4.heap.size + 1, 0, none⟩ = some (.slice B L cb)) ⟨hb5, alloc_keeps (alloc_keeps k0), alloc_keeps (alloc_at rfl), ?_⟩ ?_
  · have h : ((w4.alloc (.cells #[.int .u64 0, .int .u64 0] 28 (0, 0))).alloc (.cells #[.slice B L cb] 22 (0, 0))).heap[w4.heap.size + 1]? = some (.cells #[.slice B L cb] 22 (0, 0)) := alloc_at (by simp)
    exact slc_cell h
  clear hb k0 c0 c1 c2 hb5 l0 l1
  generalize w4.heap.size + 1 = pb at *
  generalize w4.heap.size = p12 at *
  rintro w5 ⟨hb, k0, k12, kb⟩
  refine (hpl.out _ _ _ (GkC.up _ _ hb hC) kb).mono ?_
  rintro e w6 ⟨A6, L6, e6, rfl, hW2, hb2⟩
  obtain ⟨rfl, rfl, rfl⟩ := hW2 (by decide); clear hW2
  replace hb := below_next hb hb.size hb2
  replace k0 := keeps hb2 k0
  replace k12 := keeps hb2 k12
  clear hb2 hpl kb
  obtain ⟨c0, c1, c2, _⟩ := blk3 k0
  go_wp2_with fail
  clear c0 c1 c2
  refine call_then (hck.out _ (GkC.up _ _ hb hC)) ?_
  intro w7 hb2
  replace hb := below_next hb hb.size hb2
  replace k12 := keeps hb2 k12
  clear hb2 hck k0
  obtain ⟨d0, d1, _, _⟩ := blk2 k12
  skip
  clear hC
  go_wp2
  go_ret
  exact ⟨rfl, hb⟩
set_option maxRecDepth 20000 in
set_option maxHeartbeats 4000000 in
theorem gadgetChecks_few_2 (k m : Int) (A B : Option Addr) (n c L cb : Nat) (hn : n ≤ 20) (hL : L ≤ 40) (cs xs : List Int) (hm : (n : Int) < 2) (w : World) (hC : GkC A B cs xs w) (hans : Ans 2 (gvl 2 A n c m) 9 B L cb (GkC A B cs xs)) :
    Calls Tryd.prog 4 #[.int .u8 2, gvl 2 A n c m, .slice B L cb] w fun e w' => e = .returned (.bool true) ∧ Below w.heap.size w w' := by
  have hof := Lib.hid hans.of
  have hpl := Lib.hid hans.poly
  have hck := Lib.hid hans.chk
  unfold ChkBy at hck
  unfold OfR at hof
  unfold PlR at hpl
  unfold gvl at hof hpl hck
  clear hans
  have gaw := Lib.hid gawake
  have y1 : ¬ ((20 : Int) < (n : Int)) := by omega
  have y2 : ¬ ((40 : Int) < (L : Int)) := by omega
  unfold gvl
  go_enter Tryd.func4, Tryd.ntmps4
  go_wp2_with fail
  refine name_calls (fun w1 => Below w.heap.size w w1 ∧ w1.heap[w.heap.size]? = some (.cells #[.int .u8 2, .slice A n c, .int .i64 m] 34 (0, 0))) ⟨(Below.refl _ _).alloc (Nat.le_refl _) _, alloc_at rfl⟩ ?_
  rintro w1 ⟨hb, k0⟩
  refine call_then (gaw.out _) ?_
  intro w2 hb2
  replace hb := below_next hb hb.size hb2
  replace k0 := keeps hb2 k0
  clear hb2
  obtain ⟨c0, c1, c2, _⟩ := blk3 k0
  go_wp2_with fail
  clear c0 c1 c2
  refine name_calls (fun w3 => Below w.heap.size w w3 ∧ w3.heap[w.heap.size]? = some (.cells #[.int .u8 2, .slice A n c, .int .i64 m] 34 (0, 0))) ⟨hb, k0⟩ ?_
  clear hb k0
  rintro w3 ⟨hb, k0⟩
  refine (hof.out _ (GkC.up _ _ hb hC)).mono ?_
  rintro e w4 ⟨x, y, e0, rfl, hW1, hb2⟩
  obtain ⟨rfl, rfl, rfl⟩ := hW1 (by decide); clear hW1
  replace hb := below_next hb hb.size hb2
  replace k0 := keeps hb2 k0
  clear hb2 hof
  obtain ⟨c0, c1, c2, _⟩ := blk3 k0
  have l0 := lt_of_get k0
  have l1 : w.heap.size ≠ w4.heap.size := Nat.ne_of_lt l0
  go_wp2_with fail
  have hb5 := (hb.alloc hb.size (.cells #[.int .u64 0, .int .u64 0] 28 (0, 0))).alloc (by simp; exact Nat.le_succ_of_le hb.size) (.cells #[.slice B L cb] 22 (0, 0))
  refine name_calls (fun w5 => Below w.heap.size w w5 ∧ w5.heap[w.heap.size]? = some (.cells #[.int .u8 2, .slice A n c, .int .i64 m] 34 (0, 0)) ∧ w5.heap[w4.heap.size]? = some (.cells #[.int .u64 0, .int .u64 0] 28 (0, 0)) ∧ w5.cell? ⟨w4.heap.size + 1, 0, none⟩ = some (.slice B L cb)) ⟨hb5, alloc_keeps (alloc_keeps k0), alloc_keeps (alloc_at rfl), ?_⟩ ?_
  · have h : ((w4.alloc (.cells #[.int .u64 0, .int .u64 0] 28 (0, 0))).alloc (.cells #[.slice B L cb] 22 (0, 0))).heap[w4.heap.size + 1]? = some (.cells #[.slice B L cb] 22 (0, 0)) := alloc_at (by simp)
    exact slc_cell h
  clear hb k0 c0 c1 c2 hb5 l0 l1
  generalize w4.heap.size + 1 = pb at *
  generalize w4.heap.size = p12 at *
  rintro w5 ⟨hb, k0, k12, kb⟩
  refine (hpl.out _ _ _ (GkC.up _ _ hb hC) kb).mono ?_
  rintro e w6 ⟨A6, L6, e6, rfl, hW2, hb2⟩
  obtain ⟨rfl, rfl, rfl⟩ := hW2 (by decide); clear hW2
  replace hb := below_next hb hb.size hb2
  replace k0 := keeps hb2 k0
  replace k12 := keeps hb2 k12
  clear hb2 hpl kb
  obtain ⟨c0, c1, c2, _⟩ := blk3 k0
  go_wp2_with fail
  clear c0 c1 c2
  refine call_then (hck.out _ (GkC.up _ _ hb hC)) ?_
  intro w7 hb2
  replace hb := below_next hb hb.size hb2
  replace k12 := keeps hb2 k12
  clear hb2 hck k0
  obtain ⟨d0, d1, _, _⟩ := blk2 k12
  skip
  clear hC
  go_wp2
  go_ret
  exact ⟨rfl, hb⟩
set_option maxRecDepth 20000 in
set_option maxHeartbeats 4000000 in
theorem gadgetChecks_many_2 (k m : Int) (A B : Option Addr) (n c L cb : Nat) (hn : n ≤ 20) (hL : L ≤ 40) (cs xs : List Int) (hm1 : ¬ (n : Int) < 2) (hm : (4 : Int) < (n : Int)) (w : World) (hC : GkC A B cs xs w) (hans : Ans 2 (gvl 2 A n c m) 9 B L cb (GkC A B cs xs)) :
    Calls Tryd.prog 4 #[.int .u8 2, gvl 2 A n c m, .slice B L cb] w fun e w' => e = .returned (.bool true) ∧ Below w.heap.size w w' := by
  have hof := Lib.hid hans.of
  have hpl := Lib.hid hans.poly
  have hck := Lib.hid hans.chk
  unfold ChkBy at hck
  unfold OfR at hof
  unfold PlR at hpl
  unfold gvl at hof hpl hck
  clear hans
  have gaw := Lib.hid gawake
  have y1 : ¬ ((20 : Int) < (n : Int)) := by omega
  have y2 : ¬ ((40 : Int) < (L : Int)) := by omega
  unfold gvl
  go_enter Tryd.func4, Tryd.ntmps4
  go_wp2_with fail
  refine name_calls (fun w1 => Below w.heap.size w w1 ∧ w1.heap[w.heap.size]? = some (.cells #[.int .u8 2, .slice A n c, .int .i64 m] 34 (0, 0))) ⟨(Below.refl _ _).alloc (Nat.le_refl _) _, alloc_at rfl⟩ ?_
  rintro w1 ⟨hb, k0⟩
  refine call_then (gaw.out _) ?_
  intro w2 hb2
  replace hb := below_next hb hb.size hb2
  replace k0 := keeps hb2 k0
  clear hb2
  obtain ⟨c0, c1, c2, _⟩ := blk3 k0
  go_wp2_with fail
  clear c0 c1 c2
  refine name_calls (fun w3 => Below w.heap.size w w3 ∧ w3.heap[w.heap.size]? = some (.cells #[.int .u8 2, .slice A n c, .int .i64 m] 34 (0, 0))) ⟨hb, k0⟩ ?_
  clear hb k0
  rintro w3 ⟨hb, k0⟩
  refine (hof.out _ (GkC.up _ _ hb hC)).mono ?_
  rintro e w4 ⟨x, y, e0, rfl, hW1, hb2⟩
  obtain ⟨rfl, rfl, rfl⟩ := hW1 (by decide); clear hW1
  replace hb := below_next hb hb.size hb2
  replace k0 := keeps hb2 k0
  clear hb2 hof
  obtain ⟨c0, c1, c2, _⟩ := blk3 k0
  have l0 := lt_of_get k0
  have l1 : w.heap.size ≠ w4.heap.size := Nat.ne_of_lt l0
  go_wp2_with fail
  have hb5 := (hb.alloc hb.size (.cells #[.int .u64 0, .int .u64 0] 28 (0, 0))).alloc (by simp; exact Nat.le_succ_of_le hb.size) (.cells #[.slice B L cb] 22 (0, 0))
  refine name_calls (fun w5 => Below w.heap.size w w5 ∧ w5.heap[w.heap.size]? = some (.cells #[.int .u8 2, .slice A n c, .int .i64 m] 34 (0, 0)) ∧ w5.heap[w4.heap.size]? = some (.cells #[.int .u64 0, .int .u64 0] 28 (0, 0)) ∧ w5.cell? ⟨w4.heap.size + 1, 0, none⟩ = some (.slice B L cb)) ⟨hb5, alloc_keeps (alloc_keeps k0), alloc_keeps (alloc_at rfl), ?_⟩ ?_
  · have h : ((w4.alloc (.cells #[.int .u64 0, .int .u64 0] 28 (0, 0))).alloc (.cells #[.slice B L cb] 22 (0, 0))).heap[w4.heap.size + 1]? = some (.cells #[.slice B L cb] 22 (0, 0)) := alloc_at (by simp)
    exact slc_cell h
  clear hb k0 c0 c1 c2 hb5 l0 l1
  generalize w4.heap.size + 1 = pb at *
  generalize w4.heap.size = p12 at *
  rintro w5 ⟨hb, k0, k12, kb⟩
  refine (hpl.out _ _ _ (GkC.up _ _ hb hC) kb).mono ?_
  rintro e w6 ⟨A6, L6, e6, rfl, hW2, hb2⟩
  obtain ⟨rfl, rfl, rfl⟩ := hW2 (by decide); clear hW2
  replace hb := below_next hb hb.size hb2
  replace k0 := keeps hb2 k0
  replace k12 := keeps hb2 k12
  clear hb2 hpl kb
  obtain ⟨c0, c1, c2, _⟩ := blk3 k0
  go_wp2_with fail
  clear c0 c1 c2
  refine call_then (hck.out _ (GkC.up _ _ hb hC)) ?_
  intro w7 hb2
  replace hb := below_next hb hb.size hb2
  replace k12 := keeps hb2 k12
  clear hb2 hck k0
  obtain ⟨d0, d1, _, _⟩ := blk2 k12
  skip
  clear hC
  go_wp2
  go_ret
  exact ⟨rfl, hb⟩
end Go.Proofs.YtailpfbdanhpmaaDoor
