/-
  The law, in whatever field, of whatever gadget and numbers.
-/
import Derived.Test.YtailpfbdanhpmaaDoorGcH
namespace Go.Proofs.YtailpfbdanhpmaaDoor
open Go.RowKit F Flow
set_option linter.unusedVariables false
set_option linter.unusedSimpArgs false
attribute [local go_sem] eql_elem

set_option maxRecDepth 20000 in
set_option maxHeartbeats 4000000 in
theorem gadgetChecks_long (f k m : Int) (A B : Option Addr) (n c L cb : Nat) (h : 20 < n ∨ 40 < L) (w : World) :
    Calls Tryd.prog 4 #[.int .u8 f, gvl k A n c m, .slice B L cb] w fun e w' => e = .returned (.bool true) ∧ Below w.heap.size w w' := by
  have gaw := Lib.hid gawake
  unfold gvl
  by_cases h1 : 20 < n
  · have y1 : (20 : Int) < (n : Int) := by omega
    go_enter Tryd.func4, Tryd.ntmps4
    go_wp2_with fail
    refine name_calls (fun w1 => Below w.heap.size w w1 ∧ w1.heap[w.heap.size]? = some (.cells #[.int .u8 k, .slice A n c, .int .i64 m] 34 (0, 0))) ⟨(Below.refl _ _).alloc (Nat.le_refl _) _, alloc_at rfl⟩ ?_
    rintro w1 ⟨hb, k0⟩
    refine call_then (gaw.out _) ?_
    intro w2 hb2
    replace hb := below_next hb hb.size hb2
    replace k0 := keeps hb2 k0
    clear hb2
    obtain ⟨c0, c1, c2, _⟩ := blk3 k0
    go_wp2
    go_ret
    exact ⟨rfl, hb⟩
  · have y1 : ¬ ((20 : Int) < (n : Int)) := by omega
    have y2 : (40 : Int) < (L : Int) := by omega
    go_enter Tryd.func4, Tryd.ntmps4
    go_wp2_with fail
    refine name_calls (fun w1 => Below w.heap.size w w1 ∧ w1.heap[w.heap.size]? = some (.cells #[.int .u8 k, .slice A n c, .int .i64 m] 34 (0, 0))) ⟨(Below.refl _ _).alloc (Nat.le_refl _) _, alloc_at rfl⟩ ?_
    rintro w1 ⟨hb, k0⟩
    refine call_then (gaw.out _) ?_
    intro w2 hb2
    replace hb := below_next hb hb.size hb2
    replace k0 := keeps hb2 k0
    clear hb2
    obtain ⟨c0, c1, c2, _⟩ := blk3 k0
    go_wp2
    go_ret
    exact ⟨rfl, hb⟩
theorem gadgetChecks_f1 (k m : Int) (A B : Option Addr) (n c L cb : Nat) (hn : n ≤ 20) (hL : L ≤ 40) (hnc : n ≤ c) (cs xs : List Int) (hl : cs.length = n) (hcs : ElemsOK cs) (hxl : xs.length = L) (hxs : ElemsOK xs) (w : World) (hC : GkC A B cs xs w) :
    Calls Tryd.prog 4 #[.int .u8 1, gvl k A n c m, .slice B L cb] w fun e w' => e = .returned (.bool true) ∧ Below w.heap.size w w' := by
  have hans : Ans 1 (gvl k A n c m) (chkV 1 k cs n m) B L cb (GkC A B cs xs) := ans_all ft_one root_one finBy1 k m hl hn hnc hcs hxl hL hxs (fun w w' hb h => h.up w w' hb) (fun w h => h.2.2) (fun w h => h.2.1) (fun w h => h.1)
  unfold chkV at hans
  by_cases k1 : k = 1
  · subst k1
    rw [if_pos rfl] at hans
    exact gadgetChecks_mul_1 1 m A B n c L cb hn hL cs xs trivial w hC hans
  rw [if_neg k1] at hans
  have y1 : (k == 1) = false := by rw [beq_eq_false_iff_ne]; exact k1
  by_cases k2 : k = 2
  · subst k2
    rw [if_pos rfl] at hans
    unfold chkC at hans
    by_cases h1 : n < 2
    · rw [if_pos (Or.inl h1)] at hans
      exact gadgetChecks_few_1 2 m A B n c L cb hn hL cs xs (by omega) w hC hans
    by_cases h2 : 4 < n
    · rw [if_pos (Or.inr h2)] at hans
      exact gadgetChecks_many_1 2 m A B n c L cb hn hL cs xs (by omega) (by omega) w hC hans
    rw [if_neg (by omega)] at hans
    by_cases h3 : cs.getD (n - 1) 0 = 0
    · rw [if_pos h3] at hans
      exact gadgetChecks_lead_1 m A B n c L cb (by omega) (by omega) hL cs xs hl hcs h3 w hC hans
    rw [if_neg h3] at hans
    by_cases h4 : ∀ k, k < n → cs.getD k 0 < M 1
    · rw [if_pos h4] at hans
      exact gadgetChecks_good_1 m A B n c L cb (by omega) (by omega) hL cs xs hl hcs h3 (if_pos h4) w hC hans
    · rw [if_neg h4] at hans
      exact gadgetChecks_bad_1 m A B n c L cb (by omega) (by omega) hL cs xs hl hcs h3 (if_neg h4) w hC hans
  rw [if_neg k2] at hans
  have y2 : (k == 2) = false := by rw [beq_eq_false_iff_ne]; exact k2
  by_cases k3 : k = 3
  · subst k3
    rw [if_pos rfl] at hans
    by_cases h1 : m < 1
    · rw [if_pos (Or.inl h1)] at hans
      exact gadgetChecks_low_1 3 m A B n c L cb hn hL cs xs h1 w hC hans
    by_cases h2 : 16 < m
    · rw [if_pos (Or.inr h2)] at hans
      exact gadgetChecks_high_1 3 m A B n c L cb hn hL cs xs h1 h2 w hC hans
    rw [if_neg (by omega)] at hans
    exact gadgetChecks_par_1 3 m A B n c L cb hn hL cs xs h1 h2 w hC hans
  rw [if_neg k3] at hans
  have y3 : (k == 3) = false := by rw [beq_eq_false_iff_ne]; exact k3
  exact gadgetChecks_kind_1 k m A B n c L cb hn hL cs xs y1 y2 y3 w hC hans
theorem gadgetChecks_f2 (k m : Int) (A B : Option Addr) (n c L cb : Nat) (hn : n ≤ 20) (hL : L ≤ 40) (hnc : n ≤ c) (cs xs : List Int) (hl : cs.length = n) (hcs : ElemsOK cs) (hxl : xs.length = L) (hxs : ElemsOK xs) (w : World) (hC : GkC A B cs xs w) :
    Calls Tryd.prog 4 #[.int .u8 2, gvl k A n c m, .slice B L cb] w fun e w' => e = .returned (.bool true) ∧ Below w.heap.size w w' := by
  have hans : Ans 2 (gvl k A n c m) (chkV 2 k cs n m) B L cb (GkC A B cs xs) := ans_all ft_two root_two finBy2 k m hl hn hnc hcs hxl hL hxs (fun w w' hb h => h.up w w' hb) (fun w h => h.2.2) (fun w h => h.2.1) (fun w h => h.1)
  unfold chkV at hans
  by_cases k1 : k = 1
  · subst k1
    rw [if_pos rfl] at hans
    exact gadgetChecks_mul_2 1 m A B n c L cb hn hL cs xs trivial w hC hans
  rw [if_neg k1] at hans
  have y1 : (k == 1) = false := by rw [beq_eq_false_iff_ne]; exact k1
  by_cases k2 : k = 2
  · subst k2
    rw [if_pos rfl] at hans
    unfold chkC at hans
    by_cases h1 : n < 2
    · rw [if_pos (Or.inl h1)] at hans
      exact gadgetChecks_few_2 2 m A B n c L cb hn hL cs xs (by omega) w hC hans
    by_cases h2 : 4 < n
    · rw [if_pos (Or.inr h2)] at hans
      exact gadgetChecks_many_2 2 m A B n c L cb hn hL cs xs (by omega) (by omega) w hC hans
    rw [if_neg (by omega)] at hans
    by_cases h3 : cs.getD (n - 1) 0 = 0
    · rw [if_pos h3] at hans
      exact gadgetChecks_lead_2 m A B n c L cb (by omega) (by omega) hL cs xs hl hcs h3 w hC hans
    rw [if_neg h3] at hans
    by_cases h4 : ∀ k, k < n → cs.getD k 0 < M 2
    · rw [if_pos h4] at hans
      exact gadgetChecks_good_2 m A B n c L cb (by omega) (by omega) hL cs xs hl hcs h3 (if_pos h4) w hC hans
    · rw [if_neg h4] at hans
      exact gadgetChecks_bad_2 m A B n c L cb (by omega) (by omega) hL cs xs hl hcs h3 (if_neg h4) w hC hans
  rw [if_neg k2] at hans
  have y2 : (k == 2) = false := by rw [beq_eq_false_iff_ne]; exact k2
  by_cases k3 : k = 3
  · subst k3
    rw [if_pos rfl] at hans
    by_cases h1 : m < 1
    · rw [if_pos (Or.inl h1)] at hans
      exact gadgetChecks_low_2 3 m A B n c L cb hn hL cs xs h1 w hC hans
    by_cases h2 : 16 < m
    · rw [if_pos (Or.inr h2)] at hans
      exact gadgetChecks_high_2 3 m A B n c L cb hn hL cs xs h1 h2 w hC hans
    rw [if_neg (by omega)] at hans
    exact gadgetChecks_par_2 3 m A B n c L cb hn hL cs xs h1 h2 w hC hans
  rw [if_neg k3] at hans
  have y3 : (k == 3) = false := by rw [beq_eq_false_iff_ne]; exact k3
  exact gadgetChecks_kind_2 k m A B n c L cb hn hL cs xs y1 y2 y3 w hC hans
theorem gadgetChecks_walk (f k m : Int) (A B : Option Addr) (cs xs : List Int) (c cb : Nat) (hnc : cs.length ≤ c) (hcs : ElemsOK cs) (hxs : ElemsOK xs) (w : World) (hT : Tabs w) (hA : ElemsAt w A cs) (hB : ElemsAt w B xs) :
    Calls Tryd.prog 4 #[.int .u8 f, gvl k A cs.length c m, .slice B xs.length cb] w fun e w' => e = .returned (.bool true) ∧ Below w.heap.size w w' := by
  by_cases h1 : 20 < cs.length ∨ 40 < xs.length
  · exact gadgetChecks_long f k m A B _ c _ cb h1 w
  · have hn : cs.length ≤ 20 := by omega
    have hL : xs.length ≤ 40 := by omega
    have hC : GkC A B cs xs w := ⟨hT, hA, hB⟩
    by_cases f1 : f = 1
    · subst f1
      exact gadgetChecks_f1 k m A B _ c _ cb hn hL hnc cs xs rfl hcs rfl hxs w hC
    by_cases f2 : f = 2
    · subst f2
      exact gadgetChecks_f2 k m A B _ c _ cb hn hL hnc cs xs rfl hcs rfl hxs w hC
    exact gadgetChecks_none f k m ⟨by rw [beq_eq_false_iff_ne]; exact f1, by rw [beq_eq_false_iff_ne]; exact f2⟩ A B _ c _ cb hn hL cs xs w hC
end Go.Proofs.YtailpfbdanhpmaaDoor
