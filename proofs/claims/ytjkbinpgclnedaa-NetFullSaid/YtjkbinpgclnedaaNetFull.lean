/-
  NetFull, proved: as many letters on their way as may be, and one more; too long ones; for any byte, with no condition.
-/
import Derived.Test.YtjkbinpgclnedaaNetG
import Derived.Test.YtjkbinpgclnedaaFrame
import Derived.Test.YtjkbinpgclnedaaPost
namespace Go.Proofs.Ytjkbinpgclnedaa
open Go.RowKit Go.WideShapes Go.ChangeShapes Flow
set_option linter.unusedVariables false

set_option maxHeartbeats 2000000 in
theorem send_full (p : Nat) (v : Option Addr) (n cap : Nat) (s c l f t : Int) (a : Option Addr) (nb cb : Nat) (hmay : ∀ w, Calls Try.prog 19 #[.int .i64 f, .int .i64 t] w fun e w' => e = .returned (.bool true) ∧ Below w.heap.size w w')
    (hn : 4096 ≤ n) (l0 : 0 ≤ l) (l1 : l < 1000000) (hnb : nb ≤ 1000) (w : World) (hp : w.heap[p]? = some (.cells #[.slice v n cap, .int .i64 s, .int .i64 c, .int .i64 l] 46 (0, 0))) :
    Calls Try.prog 11 #[.pointer (some ⟨p, 0, none⟩), .agg #[.int .i64 f, .int .i64 t, .slice a nb cb]] w fun e w' => e = .returned (.int .i64 18) ∧ Moved p none w w' ∧ w'.heap[p]? = some (.cells #[.slice v n cap, .int .i64 s, .int .i64 c, .int .i64 (l + 1)] 46 (0, 0)) := by
  replace hmay := Lib.hid hmay
  have x0 : decide ((1048576 : Int) < (nb : Int)) = false := by rw [decide_eq_false_iff_not]; omega
  have n0 : decide ((4096 : Int) ≤ (n : Int)) = true := by rw [decide_eq_true_eq]; omega
  have l2 : l + 1 < 1000001 := by omega
  have l3 : 0 ≤ l + 1 := by omega
  have hlp := lt_of_get hp
  clear hnb hn
  go_enter Try.func11, Try.ntmps11
  go_upto_region 1 with (fail)
  refine name_wp (fun w1 => Below w.heap.size w w1 ∧ w1.heap[p]? = some (.cells #[.slice v n cap, .int .i64 s, .int .i64 c, .int .i64 l] 46 (0, 0)) ∧ w1.heap[w.heap.size]? = some (.cells #[.int .i64 f, .int .i64 t, .slice a nb cb] 32 (0, 0))) ⟨(Below.refl _ _).alloc (Nat.le_refl _) _, alloc_keeps hp, alloc_at rfl⟩ ?_
  clear hp
  rintro w1 ⟨hb, hq, kx⟩
  obtain ⟨d0, d1, d2, _⟩ := blkN kx
  go_wp2_with fail
  refine call_then (hmay.out _) ?_
  clear d0 d1 d2
  intro w2 hb2
  replace hb := below_next hb hb.size hb2
  replace hq := keeps hb2 hq
  replace kx := keeps hb2 kx
  clear hb2
  obtain ⟨c0, c1, c2, c3, f0, f1, f2, f3⟩ := blkP hq
  obtain ⟨d0, d1, d2, _⟩ := blkN kx
  go_wp2
  go_ret
  exact ⟨rfl, (Moved.of_below hb).set _, (store1 hq (o := 3) (v := .int .i64 (l + 1))).trans rfl⟩
set_option maxHeartbeats 2000000 in
theorem send_long (p : Nat) (f t : Int) (a : Option Addr) (nb cb : Nat) (hmay : ∀ w, Calls Try.prog 19 #[.int .i64 f, .int .i64 t] w fun e w' => e = .returned (.bool true) ∧ Below w.heap.size w w')
    (hnb : 1048576 < nb) (w : World) : Calls Try.prog 11 #[.pointer (some ⟨p, 0, none⟩), .agg #[.int .i64 f, .int .i64 t, .slice a nb cb]] w fun e w' => e = .returned (.int .i64 4) ∧ Below w.heap.size w w' := by
  replace hmay := Lib.hid hmay
  have x0 : decide ((1048576 : Int) < (nb : Int)) = true := by rw [decide_eq_true_eq]; omega
  clear hnb
  go_enter Try.func11, Try.ntmps11
  go_upto_region 1 with (fail)
  refine name_wp (fun w1 => Below w.heap.size w w1 ∧ w1.heap[w.heap.size]? = some (.cells #[.int .i64 f, .int .i64 t, .slice a nb cb] 32 (0, 0))) ⟨(Below.refl _ _).alloc (Nat.le_refl _) _, alloc_at rfl⟩ ?_
  rintro w1 ⟨hb, kx⟩
  obtain ⟨d0, d1, d2, _⟩ := blkN kx
  go_wp2_with fail
  refine call_then (hmay.out _) ?_
  clear d0 d1 d2
  intro w2 hb2
  replace hb := below_next hb hb.size hb2
  replace kx := keeps hb2 kx
  clear hb2
  obtain ⟨d0, d1, d2, _⟩ := blkN kx
  go_wp2
  go_ret
  exact ⟨rfl, hb⟩
set_option maxHeartbeats 2000000 in
theorem double_full (p : Nat) (v : Option Addr) (n cap i : Nat) (s c l : Int) (hi : i < n) (hn : 4096 ≤ n) (hn2 : n ≤ 5000) (w : World) (hp : w.heap[p]? = some (.cells #[.slice v n cap, .int .i64 s, .int .i64 c, .int .i64 l] 46 (0, 0))) :
    Calls Try.prog 10 #[.pointer (some ⟨p, 0, none⟩), .int .i64 i] w fun e w' => e = .returned (.bool false) ∧ Below w.heap.size w w' := by
  have hhas := Lib.hid (fun w hp => nhas_in p v n cap s c l i hi hn2 w hp)
  have n0 : decide ((4096 : Int) ≤ (n : Int)) = true := by rw [decide_eq_true_eq]; omega
  clear hn hn2 hi
  go_enter Try.func10, Try.ntmps10
  go_wp2_with fail
  refine call_then (hhas.out _ hp) ?_
  intro w2 hb
  have hq := keeps hb hp
  obtain ⟨c0, c1, c2, c3, f0, f1, f2, f3⟩ := blkP hq
  go_wp2
  go_ret
  exact ⟨rfl, hb⟩
/-- A text of no bytes. -/
def NoText (v : Value) : Prop := v = .slice none 0 0 ∨ ∃ b o c, v = .slice (some ⟨b, o, none⟩) 0 c
theorem NoText.txt {v : Value} (h : NoText v) (w : World) (p : Nat) (go : Option Nat) : Txt w p go v [] := by
  rcases h with h | ⟨b, o, c, h⟩
  · exact .inl ⟨h, rfl⟩
  · exact .inr ⟨b, o, c, h, fun i hi => absurd hi (Nat.not_lt_zero _)⟩
theorem NoText.of {v : Value} {w : World} {p : Nat} {go : Option Nat} (h : Txt w p go v []) : NoText v := by
  rcases h with ⟨h, _⟩ | ⟨b, o, c, h, _⟩
  · exact .inl h
  · exact .inr ⟨b, o, c, h⟩
theorem NoText.slice {v : Value} (h : NoText v) : ∃ a c, v = .slice a 0 c := by
  rcases h with h | ⟨b, o, c, h⟩
  · exact ⟨_, _, h⟩
  · exact ⟨_, _, h⟩
/-- The net of the law's loop, behind so many letters. -/
def FullAt (p : Nat) (w : World) (n : Nat) (l : Int) : Prop :=
  ∃ (L : List (Int × Int × Value)) (a : Option Addr) (cap : Nat), L.length = n ∧ (∀ x ∈ L, x.1 = 0 ∧ x.2.1 = 1 ∧ NoText x.2.2) ∧
    w.heap[p]? = some (.cells #[.slice a n cap, .int .i64 n, .int .i64 0, .int .i64 l] 46 (0, 0)) ∧ w.ownsRow (p + 1) 32 3 (.slice a n cap) n (lcells L) ∧ (∀ g, (Value.slice a n cap).ownBlock = some g → p + 1 ≤ g)
set_option maxHeartbeats 2000000 in
theorem full_send (p n : Nat) (l : Int) (hn : n < 4096) (w : World) (h : FullAt p w n l) (hp : 0 ≤ l) :
    Calls Try.prog 11 #[.pointer (some ⟨p, 0, none⟩), .agg #[.int .i64 0, .int .i64 1, .slice none 0 0]] w fun e w' => e = .returned (.int .i64 0) ∧ FullAt p w' (n + 1) l ∧ ∀ B a, Below B a w → B ≤ p → Below B a w' := by
  obtain ⟨L, a, cap, rfl, hL, hq, hown, hg⟩ := h
  refine (send_ok p L _ L.length 0 l 0 1 none 0 [] may_01 hn (by omega) (by omega) (by decide) w hq hown (.inl ⟨rfl, rfl⟩)).mono ?_
  rintro e w' ⟨v', bv, rfl, hM, hw, hp', hown', htx, a2, n2, c2, rfl⟩
  have hlp := lt_of_get hq
  obtain ⟨a', n', c', rfl, hn'⟩ : ∃ a n c, v' = .slice a n c ∧ n = L.length + 1 := by
    rcases hown'.2 with ⟨e, h0⟩ | ⟨g, cap, cur, e, _⟩
    · omega
    · exact ⟨_, _, _, e, rfl⟩
  subst hn'
  refine ⟨rfl, ⟨L ++ [(0, 1, .slice a2 n2 c2)], a', c', by simp, fun x hx => ?_, ?_, by simpa using hown', fun g e => (hown'.lt g e).1⟩, fun B b hb hB => hM.below hb hB (fun g e => by have := hg g e; omega) (by omega)⟩
  · rcases List.mem_append.1 hx with hx | hx
    · exact hL x hx
    · obtain rfl := List.mem_singleton.1 hx
      exact ⟨rfl, rfl, NoText.of htx⟩
  · rw [hp']
    simp
theorem full_more (p : Nat) (l : Int) (w : World) (h : FullAt p w 4096 l) (l0 : 0 ≤ l) (l1 : l < 1000) :
    Calls Try.prog 11 #[.pointer (some ⟨p, 0, none⟩), .agg #[.int .i64 0, .int .i64 1, .slice none 0 0]] w fun e w' => e = .returned (.int .i64 18) ∧ FullAt p w' 4096 (l + 1) ∧ ∀ B a, Below B a w → B ≤ p → Below B a w' := by
  obtain ⟨L, a, cap, hn, hL, hq, hown, hg⟩ := h
  have hlp := lt_of_get hq
  refine (send_full p a 4096 cap (4096 : Nat) 0 l 0 1 none 0 0 may_01 (Nat.le_refl _) l0 (by omega) (by decide) w hq).mono ?_
  rintro e w' ⟨rfl, hM, hp'⟩
  refine ⟨rfl, ⟨L, a, cap, hn, hL, hp', ?_, hg⟩, fun B b hb hB => hM.below hb hB (fun g e => by cases e) (by omega)⟩
  refine hown.kept ⟨hM.os, hM.tape, hM.output, hM.size, fun k hk hne => hM.block k hk (fun e => hne (by rw [e])) (fun e => by cases e)⟩ (row := some p) ?_
  refine .inr (fun e => ?_)
  have := hg p e
  omega
theorem full_double (p n : Nat) (l : Int) (h0 : 0 < n) (hn : n < 4096) (w : World) (h : FullAt p w n l) :
    Calls Try.prog 10 #[.pointer (some ⟨p, 0, none⟩), .int .i64 0] w fun e w' => e = .returned (.bool true) ∧ (∃ a cap, w'.heap[p]? = some (.cells #[.slice a (n + 1) cap, .int .i64 n, .int .i64 0, .int .i64 l] 46 (0, 0))) ∧ ∀ B a, Below B a w → B ≤ p → Below B a w' := by
  obtain ⟨L, a, cap, rfl, hL, hq, hown, hg⟩ := h
  have hlp := lt_of_get hq
  obtain ⟨g, cap', e⟩ := owns_some hown h0
  cases e
  obtain ⟨x, r, rfl⟩ : ∃ x r, L = x :: r := by cases L with
    | nil => simp at h0
    | cons x r => exact ⟨x, r, rfl⟩
  obtain ⟨f, t, v⟩ := x
  obtain ⟨e1, e2, e3⟩ := hL _ List.mem_cons_self
  simp only at e1 e2 e3
  subst e1 e2
  obtain ⟨a2, c2, rfl⟩ := e3.slice
  refine (double_ok p g _ 0 ((0, 1, .slice a2 0 c2) :: r) _ 0 l 0 1 a2 0 c2 [] rfl hn (by decide) w hq hown (e3.txt _ _ _)).mono ?_
  rintro e w' ⟨v', bv, rfl, hM, hw, hp', hown', _⟩
  obtain ⟨a', n', c', rfl, hn'⟩ : ∃ a n c, v' = .slice a n c ∧ n = ((0, 1, Value.slice a2 0 c2) :: r : List (Int × Int × Value)).length + 1 := by
    rcases hown'.2 with ⟨e, h0⟩ | ⟨g, cap, cur, e, _⟩
    · omega
    · exact ⟨_, _, _, e, rfl⟩
  subst hn'
  exact ⟨rfl, ⟨_, _, hp'⟩, fun B b hb hB => hM.below hb hB (fun g e => by have := hg g e; omega) (by omega)⟩
theorem full_doubled (p : Nat) (l : Int) (w : World) (h : FullAt p w 4096 l) :
    Calls Try.prog 10 #[.pointer (some ⟨p, 0, none⟩), .int .i64 0] w fun e w' => e = .returned (.bool false) ∧ (∃ a cap, w'.heap[p]? = some (.cells #[.slice a 4096 cap, .int .i64 (4096 : Nat), .int .i64 0, .int .i64 l] 46 (0, 0))) ∧ ∀ B a, Below B a w → B ≤ p → Below B a w' := by
  obtain ⟨L, a, cap, hn, hL, hq, hown, hg⟩ := h
  have hlp := lt_of_get hq
  refine (double_full p a 4096 cap 0 _ 0 l (by decide) (by decide) (by decide) w hq).mono ?_
  rintro e w' ⟨rfl, hb⟩
  exact ⟨rfl, ⟨_, _, keeps hb hq⟩, fun B b hb2 hB => below_next hb2 (by omega) hb⟩
theorem big_text : ∃ big : Array Value, ∀ w : World, (Instr.makeSlice 27 (.int .i64 1048577) (.int .i64 1048577)).run Try.prog w = .ok (.slice (some ⟨w.heap.size, 0, none⟩) 1048577 1048577) (w.alloc (.cells big 5 (0, 0))) := by
  obtain ⟨i0, z0, hinf, hz0, hz1, hz2, hz3⟩ := info_partsN info_byte
  refine ⟨_, fun w => run_make (P := Try.prog) w 27 5 i0 z0 Try.underlying27 hinf hz0 .i64 .i64 1048577 1048577 (by decide) (by decide) (by rw [hz2]; decide) (by decide)⟩
theorem full_start {p : Nat} {w : World} (hp : w.heap[p]? = some (.cells #[.slice none 0 0, .int .i64 0, .int .i64 0, .int .i64 0] 46 (0, 0))) : FullAt p w 0 0 :=
  ⟨[], none, 0, rfl, fun x hx => absurd hx List.not_mem_nil, hp, World.ownsRow_nil _ _ _ _, fun g e => by cases e⟩
theorem FullAt.up {p n : Nat} {l : Int} {w w' : World} (h : FullAt p w n l) (hb : Below w.heap.size w w') : FullAt p w' n l := by
  obtain ⟨L, a, cap, hn, hL, hq, hown, hg⟩ := h
  exact ⟨L, a, cap, hn, hL, keeps hb hq, hown.kept ⟨hb.os, hb.tape, hb.output, hb.size, fun k hk _ => hb.block k hk⟩ (row := none) (by cases a <;> simp [Value.ownBlock]), hg⟩
set_option maxHeartbeats 8000000 in
theorem netFull_walk (n : Int) (n0 : 0 ≤ n) (n1 : n ≤ 255) (w : World) : Calls Try.prog 4 #[.int .u8 n] w fun e w' => e = .returned (.bool true) ∧ Below w.heap.size w w' := by
  obtain ⟨big, hbig⟩ := big_text
  obtain ⟨M, hM⟩ : ∃ M : Nat, (M : Int) = 4090 + n % 12 := ⟨(4090 + n % 12).toNat, by omega⟩
  have hM0 : 4090 ≤ M := by omega
  have hM1 : M ≤ 4101 := by omega
  have e12 : n.tmod 12 = n % 12 := Int.tmod_eq_emod_of_nonneg n0
  have r0 : 0 ≤ n % 12 := by omega
  have r1 : n % 12 < 12 := by omega
  go_enter Try.func4, Try.ntmps4
  go_wp2_with fail
  refine call_then (net_awake _) ?_
  intro w1 hb
  go_wp2_with fail
  refine (nnew_any _).mono ?_
  rintro e w2 ⟨rfl, hw2⟩
  have hp := alloc_at (w := w1) (k := w1.heap.size) (o := .cells #[.slice none 0 0, .int .i64 0, .int .i64 0, .int .i64 0] 46 (0, 0)) rfl
  have hbp : w.heap.size ≤ w1.heap.size := hb.size
  replace hb := hb.alloc hb.size (.cells #[.slice none 0 0, .int .i64 0, .int .i64 0, .int .i64 0] 46 (0, 0))
  rw [← hw2] at hp hb
  clear hw2
  generalize w1.heap.size = p at *
  have hF := full_start hp
  clear hp
  go_upto_region 5 with (fail)
  rw [← hM]
  replace hM := Lib.hid hM
  clear e12 r0 r1
  go_wp2
  go_loopw [16] (fun i wr => ∃ k : Nat, k ≤ M ∧ i = .int .i64 (k : Int) ∧ Below w.heap.size w wr ∧ FullAt p wr (min k 4096) ((k - 4096 : Nat) : Int)) (fun i _ => M - (intOf i).toNat)
  case atStart => exact ⟨0, by omega, rfl, hb, hF⟩
  case round =>
    clear hb hF
    obtain ⟨k, hk, rfl, hb, hF⟩ := hrel
    by_cases hlt : k < M
    · have hlt' : (k : Int) < (M : Int) := by omega
      by_cases h4 : k < 4096
      · rw [Nat.min_eq_left (by omega), show k - 4096 = 0 by omega] at hF
        have h4' : decide ((k : Int) < 4096) = true := by rw [decide_eq_true_eq]; omega
        have h5' : decide ((4096 : Int) ≤ (k : Int)) = false := by rw [decide_eq_false_iff_not]; omega
        go_wp2_with fail
        refine (full_send p k 0 h4 _ hF (by decide)).mono ?_
        rintro e w3 ⟨rfl, hF3, hB⟩
        replace hb := hB _ _ hb hbp
        clear hF hB
        go_wp2
        exact ⟨⟨k + 1, by omega, by go_num, hb, by rw [Nat.min_eq_left (by omega), show k + 1 - 4096 = 0 by omega]; exact hF3⟩, by simp [intOf]; omega⟩
      · rw [Nat.min_eq_right (by omega)] at hF
        have h4' : decide ((k : Int) < 4096) = false := by rw [decide_eq_false_iff_not]; omega
        have h5' : decide ((4096 : Int) ≤ (k : Int)) = true := by rw [decide_eq_true_eq]; omega
        go_wp2_with fail
        refine (full_more p _ _ hF (by omega) (by omega)).mono ?_
        rintro e w3 ⟨rfl, hF3, hB⟩
        replace hb := hB _ _ hb hbp
        clear hF hB
        go_wp2
        exact ⟨⟨k + 1, by omega, by go_num, hb, by rw [Nat.min_eq_right (by omega), show ((k + 1 - 4096 : Nat) : Int) = ((k - 4096 : Nat) : Int) + 1 by omega]; exact hF3⟩, by simp [intOf]; omega⟩
    · obtain rfl : k = M := by omega
      clear hlt hk
      by_cases h4 : k < 4096
      · rw [Nat.min_eq_left (by omega), show k - 4096 = 0 by omega] at hF
        have h5' : decide ((4096 : Int) ≤ (k : Int)) = false := by rw [decide_eq_false_iff_not]; omega
        have hd := Lib.hid (full_double p k 0 (by omega) h4 wr hF)
        have hmn : min ((k : Int) + 1) 4096 = (k : Int) + 1 := by omega
        go_wp2_with fail
        refine hd.out.mono ?_
        rintro e w3 ⟨rfl, ⟨a3, cap3, hp3⟩, hB⟩
        replace hb := hB _ _ hb hbp
        clear hd hB hF
        go_wp2_with fail
        refine call_then (nlen_any p a3 (k + 1) cap3 _ _ _ _ hp3) ?_
        intro w4 hb4
        replace hb := below_next hb hb.size hb4
        clear hb4
        go_wp2_with fail
        refine call_then (send_long p 1 2 _ 1048577 1048577 may_12 (by decide) _) ?_
        intro w5 hb5
        replace hb := below_next (hb.alloc hb.size _) (hb.alloc hb.size _).size hb5
        go_wp2
        go_ret
        exact ⟨rfl, hb⟩
      · rw [Nat.min_eq_right (by omega)] at hF
        have h5' : decide ((4096 : Int) ≤ (k : Int)) = true := by rw [decide_eq_true_eq]; omega
        have hd := Lib.hid (full_doubled p _ wr hF)
        have hmn : min ((k : Int) + 1) 4096 = 4096 := by omega
        go_wp2_with fail
        refine hd.out.mono ?_
        rintro e w3 ⟨rfl, ⟨a3, cap3, hp3⟩, hB⟩
        replace hb := hB _ _ hb hbp
        clear hd hB hF
        go_wp2_with fail
        have hln := nlen_any p a3 4096 cap3 _ _ _ _ hp3
        rw [show ((4096 : Nat) : Int) = 4096 from rfl] at hln
        refine call_then hln ?_
        clear hln hp3
        intro w4 hb4
        replace hb := below_next hb hb.size hb4
        clear hb4
        go_wp2_with fail
        refine call_then (send_long p 1 2 _ 1048577 1048577 may_12 (by decide) _) ?_
        intro w5 hb5
        replace hb := below_next (hb.alloc hb.size _) (hb.alloc hb.size _).size hb5
        go_wp2
        go_ret
        exact ⟨rfl, hb⟩

theorem own_netFull : ownKnob Try.prog.godebug = none := by kernel_rfl
set_option maxRecDepth 100000 in
theorem lifted_netFull (os : Os) (started : os.Started) (H : Type) (enc : TypeId × Value → H) :
    ReturnsInHanded {} Try.checked os 4 .any (Rows.netFullSpec.pre6 enc Try.prog Try.f4 Rows.netFullRow.domain false) (Rows.netFullSpec.post enc Try.prog Try.f4 false true false false) := by
  refine returnsInHanded_of_change (C := Try.checked) own_netFull started (by kernel_rfl) Try.func4
    (ChangeSpec.witness6 (enc := enc) (C := Try.checked) false ⟨#[], #[.int .u8 0], []⟩ 8 (by kernel_rfl) (by kernel_rfl) (by kernel_rfl) (by kernel_rfl)) ?_
  intro W base args ds gs before hval0 hW hcnd _
  have hval : ∀ (j : Nat) t v, Try.f4.params[j]? = some t → args[j]? = some v → Value.okWide Try.prog W .any base t v := hval0
  have hW' := hW
  obtain ⟨p, q, hA0, hV, rfl, hfz, hnd⟩ := hW
  have hA : DataW.TrodAll enc Try.prog W 0 (fun _ => true) true Try.f4.params.toList args.toList ds p := hA0
  rw [Try.params4] at hA hval
  clear hA0 hval0
  obtain ⟨v0, vs0, d0, ds0, p0, q0, hargs, rfl, rfl, h0, r0⟩ := trodAll_cons hA
  obtain ⟨rfl, rfl, rfl⟩ := trodAll_nil r0
  obtain rfl : args = #[v0] := by cases args; simp_all
  obtain ⟨rfl, rfl⟩ := trodVars_none hV
  obtain ⟨a0, rfl, _, _, w0⟩ := open_int Try.underlying5 (hval 0 5 v0 rfl rfl) h0
  have hr : 0 ≤ a0 ∧ a0 ≤ 255 := by simpa [Lit.wf, IntKind.min, IntKind.max, IntKind.signed, IntKind.bits] using w0
  refine (netFull_walk a0 hr.1 hr.2 W).mono fun e W' ⟨he, hb⟩ => ?_
  subst he
  exact ⟨_, rfl, law_true (by decide +kernel) rfl rfl Try.underlying4 hW' rfl hb⟩
theorem over_netFull : Rows.netFullRow.holds Try.pinned (OpenSpec.ofChange Rows.netFullSpec) :=
  OpenClaim.holds_of_wide 4 Try.f4 rfl rfl rfl rfl rfl rfl rfl ⟨rfl, rfl, rfl, rfl, rfl⟩ rfl rfl rfl rfl rfl (by kernel_rfl) Try.func4 (by kernel_rfl)
    (of_decide_eq_true (by kernel_rfl)) (by unfold Func.isWrapper; first | (rw [if_pos (by decide +kernel)]; kernel_rfl) | (rw [if_neg (by decide +kernel)]; exact ⟨rfl, rfl⟩))
    (fun os started H enc _ => lifted_netFull os started H enc)
theorem netFull_proved : Rows.NetFullSaid := over_netFull
#print axioms netFull_proved
end Go.Proofs.Ytjkbinpgclnedaa
