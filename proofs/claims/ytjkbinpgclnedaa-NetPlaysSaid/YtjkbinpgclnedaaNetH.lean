/-
  Letters on their way: who may send to whom, both ways; what is not there; what is refused; how many.
-/
import Derived.Test.YtjkbinpgclnedaaNetB
import Derived.BigQuiet
namespace Go.Proofs.Ytjkbinpgclnedaa
open Go.RowKit Flow
set_option linter.unusedVariables false

/-- There may be letters between these two. -/
def mayP (f t : Int) : Bool := decide (0 ≤ f ∧ f ≤ 66 ∧ 0 ≤ t ∧ t ≤ 66 ∧ f ≠ t ∧ ¬(3 ≤ f ∧ 3 ≤ t) ∧ ¬(3 ≤ f ∧ t = 2) ∧ ¬(3 ≤ t ∧ f = 2))
theorem may_no {f t : Int} (h : ¬(0 ≤ f ∧ f ≤ 66 ∧ 0 ≤ t ∧ t ≤ 66 ∧ f ≠ t ∧ ¬(3 ≤ f ∧ 3 ≤ t) ∧ ¬(3 ≤ f ∧ t = 2) ∧ ¬(3 ≤ t ∧ f = 2))) : mayP f t = false := by unfold mayP; rw [decide_eq_false_iff_not]; exact h
theorem may_yes {f t : Int} (h : 0 ≤ f ∧ f ≤ 66 ∧ 0 ≤ t ∧ t ≤ 66 ∧ f ≠ t ∧ ¬(3 ≤ f ∧ 3 ≤ t) ∧ ¬(3 ≤ f ∧ t = 2) ∧ ¬(3 ≤ t ∧ f = 2)) : mayP f t = true := by unfold mayP; rw [decide_eq_true_eq]; exact h
theorem dec_no {p : Prop} [Decidable p] (h : ¬p) : decide p = false := decide_eq_false h
theorem dec_yes {p : Prop} [Decidable p] (h : p) : decide p = true := decide_eq_true h
theorem nmay_any (f t : Int) (w : World) : Calls Try.prog 19 #[.int .i64 f, .int .i64 t] w fun e w' => e = .returned (.bool (mayP f t)) ∧ Below w.heap.size w w' := by
  by_cases h0 : f < 0
  · rw [may_no (by omega)]
    have d0 := dec_yes h0
    go_enter Try.func19, Try.ntmps19
    go_wp2
    go_ret
    exact ⟨rfl, Below.refl _ _⟩
  have d0 := dec_no h0
  by_cases h1 : 66 < f
  · rw [may_no (by omega)]
    have d1 := dec_yes h1
    go_enter Try.func19, Try.ntmps19
    go_wp2
    go_ret
    exact ⟨rfl, Below.refl _ _⟩
  have d1 := dec_no h1
  by_cases h2 : t < 0
  · rw [may_no (by omega)]
    have d2 := dec_yes h2
    go_enter Try.func19, Try.ntmps19
    go_wp2
    go_ret
    exact ⟨rfl, Below.refl _ _⟩
  have d2 := dec_no h2
  by_cases h3 : 66 < t
  · rw [may_no (by omega)]
    have d3 := dec_yes h3
    go_enter Try.func19, Try.ntmps19
    go_wp2
    go_ret
    exact ⟨rfl, Below.refl _ _⟩
  have d3 := dec_no h3
  by_cases h4 : f = t
  · rw [may_no (by omega)]
    have d4 := dec_yes h4
    subst h4
    go_enter Try.func19, Try.ntmps19
    go_wp2
    go_ret
    exact ⟨rfl, Below.refl _ _⟩
  have d4 := dec_no h4
  by_cases hlt : f < t
  · have e : mayP f t = (decide (t < 3) || decide (f < 2)) := by
      by_cases h5 : t < 3
      · rw [may_yes (by omega), dec_yes h5]; rfl
      · by_cases h6 : f < 2
        · rw [may_yes (by omega), dec_no h5, dec_yes h6]; rfl
        · rw [may_no (by omega), dec_no h5, dec_no h6]; rfl
    rw [e]
    go_enter Try.func19, Try.ntmps19
    go_wp2
    all_goals go_ret
    all_goals (refine ⟨?_, Below.refl _ _⟩; first | rfl | simp_all)
  · have e : mayP f t = (decide (f < 3) || decide (t < 2)) := by
      by_cases h5 : f < 3
      · rw [may_yes (by omega), dec_yes h5]; rfl
      · by_cases h6 : t < 2
        · rw [may_yes (by omega), dec_no h5, dec_yes h6]; rfl
        · rw [may_no (by omega), dec_no h5, dec_no h6]; rfl
    rw [e]
    go_enter Try.func19, Try.ntmps19
    go_wp2
    all_goals go_ret
    all_goals (refine ⟨?_, Below.refl _ _⟩; first | rfl | simp_all)
theorem lin_any (x : Int) (w : World) : Calls Try.prog 20 #[.int .i64 x] w fun e w' => e = .returned (.bool (decide (0 ≤ x ∧ x ≤ 66))) ∧ Below w.heap.size w w' := by
  by_cases h0 : 0 ≤ x
  · have d0 := dec_yes h0
    by_cases h1 : x ≤ 66
    · rw [dec_yes ⟨h0, h1⟩]
      have d1 := dec_yes h1
      go_enter Try.func20, Try.ntmps20
      go_wp2
      go_ret
      exact ⟨rfl, Below.refl _ _⟩
    · rw [dec_no (fun h => h1 h.2)]
      have d1 := dec_no h1
      go_enter Try.func20, Try.ntmps20
      go_wp2
      go_ret
      exact ⟨rfl, Below.refl _ _⟩
  · rw [dec_no (fun h => h0 h.1)]
    have d0 := dec_no h0
    go_enter Try.func20, Try.ntmps20
    go_wp2
    go_ret
    exact ⟨rfl, Below.refl _ _⟩
theorem lcl_any (x : Int) (w : World) : Calls Try.prog 21 #[.int .i64 x] w fun e w' => e = .returned (.bool (decide (3 ≤ x))) ∧ Below w.heap.size w w' := by
  go_enter Try.func21, Try.ntmps21
  go_wp2
  go_ret
  exact ⟨rfl, Below.refl _ _⟩
theorem counts_any (p : Nat) (v : Value) (s c l : Int) (w : World) (hp : w.heap[p]? = some (.cells #[v, .int .i64 s, .int .i64 c, .int .i64 l] 46 (0, 0))) : Calls Try.prog 13 #[.pointer (some ⟨p, 0, none⟩)] w fun e w' => e = .returned (.tuple #[.int .i64 s, .int .i64 c, .int .i64 l]) ∧ Below w.heap.size w w' := by
  obtain ⟨c0, c1, c2, c3, _⟩ := blkP hp
  go_enter Try.func13, Try.ntmps13
  go_upto_region 3 with (fail)
  go_quiet (fail)
  go_wp2
  exact bodyPost_ret (v := .tuple #[.int .i64 s, .int .i64 c, .int .i64 l]) (by simp [results, Try.results13, go_sem]) rfl ⟨rfl, (fun h n => ⟨h.os, h.tape, h.output, h.size, h.block⟩ : Below w.heap.size w w → ∀ n, Below w.heap.size w (w.drewN n)) (Below.refl _ _) _⟩
theorem nhas_out (p : Nat) (a : Option Addr) (n cap : Nat) (s c l i : Int) (hi : i < 0 ∨ (n : Int) ≤ i) (w : World) (hp : w.heap[p]? = some (.cells #[.slice a n cap, .int .i64 s, .int .i64 c, .int .i64 l] 46 (0, 0))) : Calls Try.prog 16 #[.pointer (some ⟨p, 0, none⟩), .int .i64 i] w fun e w' => e = .returned (.bool false) ∧ Below w.heap.size w w' := by
  have hl := Lib.hid (nlen_any p a n cap s c l w hp)
  go_enter Try.func16, Try.ntmps16
  by_cases h : 0 ≤ i
  · have h0 : decide (0 ≤ i) = true := dec_yes h
    go_wp2_with fail
    refine call_then hl.out ?_
    intro w2 hb
    have h1 : decide (i < (n : Int)) = false := dec_no (by omega)
    go_wp2
    go_ret
    exact ⟨rfl, hb⟩
  · have h0 : decide (0 ≤ i) = false := dec_no h
    go_wp2
    go_ret
    exact ⟨rfl, Below.refl _ _⟩
theorem drop_out (p : Nat) (a : Option Addr) (n cap : Nat) (s c l i : Int) (hi : i < 0 ∨ (n : Int) ≤ i) (w : World) (hp : w.heap[p]? = some (.cells #[.slice a n cap, .int .i64 s, .int .i64 c, .int .i64 l] 46 (0, 0))) : Calls Try.prog 9 #[.pointer (some ⟨p, 0, none⟩), .int .i64 i] w fun e w' => e = .returned (.bool false) ∧ Below w.heap.size w w' := by
  have hl := Lib.hid (nhas_out p a n cap s c l i hi w hp)
  go_enter Try.func9, Try.ntmps9
  go_wp2_with fail
  refine call_then hl.out ?_
  intro w2 hb
  go_wp2
  go_ret
  exact ⟨rfl, hb⟩
theorem double_out (p : Nat) (a : Option Addr) (n cap : Nat) (s c l i : Int) (hi : i < 0 ∨ (n : Int) ≤ i) (w : World) (hp : w.heap[p]? = some (.cells #[.slice a n cap, .int .i64 s, .int .i64 c, .int .i64 l] 46 (0, 0))) : Calls Try.prog 10 #[.pointer (some ⟨p, 0, none⟩), .int .i64 i] w fun e w' => e = .returned (.bool false) ∧ Below w.heap.size w w' := by
  have hl := Lib.hid (nhas_out p a n cap s c l i hi w hp)
  go_enter Try.func10, Try.ntmps10
  go_wp2_with fail
  refine call_then hl.out ?_
  intro w2 hb
  go_wp2
  go_ret
  exact ⟨rfl, hb⟩
def noLet : Value := .agg #[.int .i64 0, .int .i64 0, .slice none 0 0]
set_option maxHeartbeats 1000000 in
theorem peek_out (p : Nat) (a : Option Addr) (n cap : Nat) (s c l i : Int) (hi : i < 0 ∨ (n : Int) ≤ i) (w : World) (hp : w.heap[p]? = some (.cells #[.slice a n cap, .int .i64 s, .int .i64 c, .int .i64 l] 46 (0, 0))) : Calls Try.prog 15 #[.pointer (some ⟨p, 0, none⟩), .int .i64 i] w fun e w' => e = .returned (.tuple #[noLet, .bool false]) ∧ Below w.heap.size w w' := by
  have hl := Lib.hid (fun w hp => nhas_out p a n cap s c l i hi w hp)
  replace hp := Lib.hid hp
  go_enter Try.func15, Try.ntmps15
  go_wp2_with fail
  refine call_then (hl.out _ (alloc_keeps hp.out)) ?_
  intro w2 hb
  have kz := keeps hb (alloc_at (w := w) (o := .cells #[.int .i64 0, .int .i64 0, .slice none 0 0] 32 (0, 0)) rfl)
  replace hb := below_next ((Below.refl w.heap.size w).alloc (Nat.le_refl _) (.cells #[.int .i64 0, .int .i64 0, .slice none 0 0] 32 (0, 0))) (by simp) hb
  obtain ⟨d0, d1, d2, g0, g1, g2⟩ := blkN kz
  have l4 := lt_of_get kz
  go_wp2
  have q4 := store1 (store1 (store1 kz (o := 0) (v := .int .i64 0)) (o := 1) (v := .int .i64 0)) (o := 2) (v := .slice none 0 0)
  obtain ⟨r0, r1, r2, _⟩ := blkN (u := .int .i64 0) (v := .int .i64 0) (x := .slice none 0 0) (q4.trans rfl)
  exact bodyPost_ret (v := .tuple #[noLet, .bool false]) (by simp [results, Try.results15, go_sem, r0, r1, r2, noLet]) rfl
    ⟨rfl, ((hb.setCell (p := ⟨w.heap.size, 0, none⟩) (Nat.le_refl _) _).setCell (p := ⟨w.heap.size, 1, none⟩) (Nat.le_refl _) _).setCell (p := ⟨w.heap.size, 2, none⟩) (Nat.le_refl _) _⟩
set_option maxHeartbeats 1000000 in
theorem deliver_out (p : Nat) (a : Option Addr) (n cap : Nat) (s c l i : Int) (hi : i < 0 ∨ (n : Int) ≤ i) (w : World) (hp : w.heap[p]? = some (.cells #[.slice a n cap, .int .i64 s, .int .i64 c, .int .i64 l] 46 (0, 0))) : Calls Try.prog 8 #[.pointer (some ⟨p, 0, none⟩), .int .i64 i] w fun e w' => e = .returned (.tuple #[noLet, .bool false]) ∧ Below w.heap.size w w' := by
  have hl := Lib.hid (fun w hp => nhas_out p a n cap s c l i hi w hp)
  replace hp := Lib.hid hp
  go_enter Try.func8, Try.ntmps8
  go_wp2_with fail
  refine call_then (hl.out _ (alloc_keeps hp.out)) ?_
  intro w2 hb
  have kz := keeps hb (alloc_at (w := w) (o := .cells #[.int .i64 0, .int .i64 0, .slice none 0 0] 32 (0, 0)) rfl)
  replace hb := below_next ((Below.refl w.heap.size w).alloc (Nat.le_refl _) (.cells #[.int .i64 0, .int .i64 0, .slice none 0 0] 32 (0, 0))) (by simp) hb
  obtain ⟨d0, d1, d2, g0, g1, g2⟩ := blkN kz
  have l4 := lt_of_get kz
  go_wp2
  have q4 := store1 (store1 (store1 kz (o := 0) (v := .int .i64 0)) (o := 1) (v := .int .i64 0)) (o := 2) (v := .slice none 0 0)
  obtain ⟨r0, r1, r2, _⟩ := blkN (u := .int .i64 0) (v := .int .i64 0) (x := .slice none 0 0) (q4.trans rfl)
  exact bodyPost_ret (v := .tuple #[noLet, .bool false]) (by simp [results, Try.results8, go_sem, r0, r1, r2, noLet]) rfl
    ⟨rfl, ((hb.setCell (p := ⟨w.heap.size, 0, none⟩) (Nat.le_refl _) _).setCell (p := ⟨w.heap.size, 1, none⟩) (Nat.le_refl _) _).setCell (p := ⟨w.heap.size, 2, none⟩) (Nat.le_refl _) _⟩
theorem send_no (p : Nat) (f t : Int) (hm : mayP f t = false) (a : Option Addr) (n c : Nat) (w : World) : Calls Try.prog 11 #[.pointer (some ⟨p, 0, none⟩), .agg #[.int .i64 f, .int .i64 t, .slice a n c]] w fun e w' => e = .returned (.int .i64 6) ∧ Below w.heap.size w w' := by
  have hmay : ∀ w, Calls Try.prog 19 #[.int .i64 f, .int .i64 t] w fun e w' => e = .returned (.bool false) ∧ Below w.heap.size w w' := fun w => by
    have := nmay_any f t w
    rw [hm] at this
    exact this
  replace hmay := Lib.hid hmay
  go_enter Try.func11, Try.ntmps11
  have kz := alloc_at (w := w) (k := w.heap.size) (o := .cells #[.int .i64 f, .int .i64 t, .slice a n c] 32 (0, 0)) rfl
  obtain ⟨d0, d1, d2, _⟩ := blkN kz
  have hz := (Below.refl w.heap.size w).alloc (Nat.le_refl _) (.cells #[.int .i64 f, .int .i64 t, .slice a n c] 32 (0, 0))
  go_wp2_with fail
  refine call_then (hmay.out _) ?_
  intro w2 hb
  go_wp2
  go_ret
  exact ⟨rfl, below_next hz hz.size hb⟩
end Go.Proofs.Ytjkbinpgclnedaa
