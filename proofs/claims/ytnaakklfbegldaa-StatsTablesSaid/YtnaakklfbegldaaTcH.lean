/-
  A table's columns.
-/
import Derived.Test.YtnaakklfbegldaaTcG
import Derived.Test.YtnaakklfbegldaaTbC
import Derived.Deep.Cut
import Derived.Deep.DeepCutAuto
import Derived.Deep.CutBlock
namespace Go.Proofs.Ytnaakklfbegldaa
open Go.RowKit Flow
set_option linter.unusedVariables false
set_option linter.unusedSimpArgs false

theorem set_at (pre : List Value) (u v : Value) (post : List Value) : (pre ++ u :: post).toArray.setIfInBounds pre.length v = (pre ++ v :: post).toArray := by
  simp [List.setIfInBounds_toArray, List.set_append]
set_option maxRecDepth 20000 in
set_option maxHeartbeats 2000000 in
theorem thas_none (p base : Nat) (i : Int) (w : World) (h : Tb p base [] (.slice none 0 0) w) :
    Calls Try.prog 30 #[.pointer (some ⟨p, 0, none⟩), .int .i64 i] w fun e w' => e = .returned (.bool false) ∧ Below w.heap.size w w' := by
  obtain ⟨c0, _⟩ := blk1t h.hp
  clear h
  go_enter Try.func30, Try.ntmps30
  go_wp2
  go_ret
  exact ⟨rfl, Below.refl _ _⟩
set_option maxRecDepth 20000 in
set_option maxHeartbeats 2000000 in
theorem thas_some (p base : Nat) (l : List TR) (a : Option Addr) (L cap : Nat) (i : Int) (w : World) (h : Tb p base l (.slice a L cap) w) (hl : 0 < l.length) :
    Calls Try.prog 30 #[.pointer (some ⟨p, 0, none⟩), .int .i64 i] w fun e w' => e = .returned (.bool (decide (0 ≤ i) && decide (i < (tnth l 0).xs.length))) ∧ Below w.heap.size w w' := by
  obtain ⟨hLl, g, rfl, c2⟩ := first_cell h hl
  obtain ⟨c0, _⟩ := blk1t h.hp
  have e3 : (0 : Int) < (L : Int) := by omega
  have e4 : 0 < L := by omega
  generalize (tnth l 0).xs.length = k0 at *
  generalize (tnth l 0).A = A0 at *
  generalize (tnth l 0).c = cc at *
  clear h hLl hl
  by_cases h0 : 0 ≤ i
  · by_cases h1 : i < (k0 : Int)
    · rw [decide_eq_true h0, decide_eq_true h1]
      go_enter Try.func30, Try.ntmps30
      go_wp2
      go_ret
      exact ⟨rfl, Below.refl _ _⟩
    · rw [decide_eq_true h0, decide_eq_false h1]
      go_enter Try.func30, Try.ntmps30
      go_wp2
      go_ret
      exact ⟨rfl, Below.refl _ _⟩
  · rw [decide_eq_false h0]
    go_enter Try.func30, Try.ntmps30
    go_wp2
    go_ret
    exact ⟨rfl, Below.refl _ _⟩
theorem column_out (p : Nat) (i : Int) (w : World) (hh : Calls Try.prog 30 #[.pointer (some ⟨p, 0, none⟩), .int .i64 i] w fun e w' => e = .returned (.bool false) ∧ Below w.heap.size w w') :
    Calls Try.prog 13 #[.pointer (some ⟨p, 0, none⟩), .int .i64 i] w fun e w' => e = .returned (.tuple #[.slice none 0 0, .bool false]) ∧ Below w.heap.size w w' := by
  replace hh := Lib.hid hh
  go_enter Try.func13, Try.ntmps13
  go_wp2_with fail
  refine call_then hh.out ?_
  intro w2 hb
  go_wp2
  exact bodyPost_ret (v := .tuple #[.slice none 0 0, .bool false]) (by simp [results, Try.results13, go_sem]) rfl ⟨rfl, hb⟩
theorem mean_out (p : Nat) (i : Int) (w : World) (hh : Calls Try.prog 30 #[.pointer (some ⟨p, 0, none⟩), .int .i64 i] w fun e w' => e = .returned (.bool false) ∧ Below w.heap.size w w') :
    Calls Try.prog 14 #[.pointer (some ⟨p, 0, none⟩), .int .i64 i] w fun e w' => e = .returned (.tuple #[.float .f64 0, .int .i64 6]) ∧ Below w.heap.size w w' := by
  replace hh := Lib.hid hh
  go_enter Try.func14, Try.ntmps14
  go_wp2_with fail
  refine call_then hh.out ?_
  intro w2 hb
  go_wp2
  exact bodyPost_ret (v := .tuple #[.float .f64 0, .int .i64 6]) (by simp [results, Try.results14, go_sem]) rfl ⟨rfl, hb⟩
theorem make_floats1 (n : Nat) (hn : n ≤ 100) (w : World) : ∃ ROW : Array Value, ROW.size = n ∧ (Instr.makeSlice 27 (.int .i64 (n : Int)) (.int .i64 (n : Int))).run Try.prog w = .ok (.slice (some ⟨w.heap.size, 0, none⟩) n n) (w.alloc (.cells ROW 35)) := by
  obtain ⟨i0, z0, hinf, hz0, hz1, hz2, hz3⟩ := info_parts5 info_f64t
  have hr := run_make (P := Try.prog) w 27 35 i0 z0 Try.underlying27 hinf hz0 .i64 .i64 n n (by omega) (by omega) (by rw [hz2]; omega) (by omega)
  simp only [Int.toNat_natCast] at hr
  rw [hz1, Nat.mul_one] at hr
  exact ⟨_, size_madeCells _ _, hr⟩
def colV (l : List TR) (i : Nat) : List Value := l.map fun s => Value.float .f64 (s.xs.getD i 0)
def ColOut (l : List TR) (L i : Nat) (w : World) (e : Ending) (w' : World) : Prop := ∃ q, e = .returned (.tuple #[.slice (some ⟨q, 0, none⟩) L L, .bool true]) ∧ Below w.heap.size w w' ∧ At0 w' q (colV l i)
theorem fl_cell {w : World} {s : TR} {i : Nat} (h : FlAt w s) (hi : i < s.xs.length) : ∃ g, s.A = some ⟨g, 0, none⟩ ∧ w.cell? ⟨g, i, none⟩ = some (.float .f64 (s.xs.getD i 0)) := by
  rcases h.lies with hx | ⟨g, e, ha⟩
  · rw [hx] at hi
    exact absurd hi (Nat.not_lt_zero _)
  · refine ⟨g, e, at0_cell ha ?_⟩
    rw [List.getElem?_map, List.getElem?_eq_getElem hi, List.getD_eq_getElem?_getD, List.getElem?_eq_getElem hi]
    rfl
set_option maxRecDepth 20000 in
set_option maxHeartbeats 8000000 in
theorem column_any (p base : Nat) (l : List TR) (a : Option Addr) (L cap i : Nat) (w : World) (h : Tb p base l (.slice a L cap) w) (hl : 0 < l.length) (hi : ∀ s, s ∈ l → i < s.xs.length) :
    Calls Try.prog 13 #[.pointer (some ⟨p, 0, none⟩), .int .i64 i] w (ColOut l L i w) := by
  have hhas := thas_some p base l a L cap i w h hl
  rw [decide_eq_true (by omega), decide_eq_true (by have := hi _ (tnth_mem hl); omega)] at hhas
  replace hhas := Lib.hid hhas
  obtain ⟨hLl, g, rfl, _⟩ := first_cell h hl
  have hcell := Lib.hid (fun w (h : Tb p base l (.slice (some ⟨g, 0, none⟩) L cap) w) i (hi : i < L) => trow_at (n := L) (by have := h.row; rw [← hLl] at this; exact this) (by rw [← hLl]; exact hi))
  have hL1 : L ≤ 32 := by rw [hLl]; exact h.few
  have hmk := Lib.hid (fun w => make_floats1 L (by omega) w)
  have i0 : (0 : Int) ≤ (i : Int) := by omega
  unfold ColOut
  replace hLl := Lib.hid hLl
  replace hi := Lib.hid hi
  clear hl
  go_enter Try.func13, Try.ntmps13
  go_wp2_with fail
  refine call_then hhas.out ?_
  intro w1 hb
  clear hhas
  have hup : ∀ w', Below w.heap.size w w' → Tb p base l (.slice (some ⟨g, 0, none⟩) L cap) w' := fun w' hb => h.below hb
  obtain ⟨ROW, hR, hm⟩ := hmk.out w1
  obtain ⟨c0, _⟩ := blk1t (hup _ hb).hp
  go_upto_region 4 with (fail)
  have hv := (Below.refl w1.heap.size w1).alloc (Nat.le_refl _) (.cells ROW 35 (0, 0))
  have kq := alloc_at (w := w1) (k := w1.heap.size) (o := .cells ROW 35 (0, 0)) rfl
  have hq := hb.size
  replace hb := below_next hb hb.size hv
  clear hm c0 hv hmk
  generalize w1.alloc (.cells ROW 35 (0, 0)) = w2 at *
  generalize w1.heap.size = q at *
  obtain ⟨c0, _⟩ := blk1t (hup _ hb).hp
  go_wp2
  go_loopw [24] (fun i' wr => ∃ (j : Nat) (rest : List Value), j ≤ L ∧ i' = .int .i64 (j : Int) ∧ Below w.heap.size w wr ∧ rest.length = L - j ∧ wr.heap[q]? = some (.cells (colV (l.take j) i ++ rest).toArray 35 (0, 0))) (fun i' _ => L - (intOf i').toNat)
  case atStart => exact ⟨0, ROW.toList, Nat.zero_le _, rfl, hb, by simp [hR], by simpa [colV] using kq⟩
  case round =>
    clear hb kq c0
    obtain ⟨j, rest, hj, rfl, hb, hrl, kq⟩ := hrel
    by_cases hjl : j < L
    · have e1 : (j : Int) < (L : Int) := by omega
      have e2 : (0 : Int) ≤ (j : Int) := by omega
      have hr := hcell.out _ (hup _ hb) j hjl
      have hjl' : j < l.length := by rw [← hLl.out]; exact hjl
      have hmem : tnth l j ∈ l := tnth_mem hjl'
      have hil := hi.out _ hmem
      have hfl := fun w' hb' => fl_cell ((hup w' hb').fl _ hmem) hil
      obtain ⟨s, hs⟩ : ∃ s, tnth l j = s := ⟨_, rfl⟩
      rw [hs] at hr hfl hil
      obtain ⟨u, rest, rfl⟩ : ∃ u r, rest = u :: r := by
        cases rest with
        | nil => simp at hrl; omega
        | cons u r => exact ⟨u, r, rfl⟩
      have e5 : (i : Int) < (s.xs.length : Int) := by omega
      have hi3 : ((Try.prog).info? 29).map (·.size) = some (rowc s.t s.m (.slice s.A s.xs.length s.c)).length := by kernel_rfl
      replace hr : wr.rangeAt g (j * 3) (rowc s.t s.m (.slice s.A s.xs.length s.c)) := hr
      have hcl : (colV (l.take j) i).length = j := by simp [colV]; omega
      have hnx : colV (l.take (j + 1)) i = colV (l.take j) i ++ [.float .f64 (s.xs.getD i 0)] := by
        unfold colV
        rw [List.take_add_one, List.getElem?_eq_getElem hjl', List.map_append]
        rw [tnth_is hjl'] at hs
        rw [hs]
        rfl
      replace hs := Lib.hid hs
      replace hfl := Lib.hid hfl
      replace hnx := Lib.hid hnx
      generalize s.xs.getD i 0 = x at *
      generalize colV (l.take j) i = pre at *
      go_upto_region 7 with (first
        | (refine list_load_mid _ _ _ (j * 3) _ _ rfl rfl rfl hr Try.underlying29 rfl hi3 ?_)
        | (refine list_store_whole _ _ _ _ (rowc s.t s.m (.slice s.A s.xs.length s.c)) [.int .u64 0, .int .i64 0, .slice none 0 0] 29 rfl rfl rfl rfl (alloc_at rfl) rfl (by kernel_rfl) rowc_one ?_; intro w5 hbut ks; have hv := hbut.below ((Below.refl wr.heap.size wr).alloc (Nat.le_refl _) _) (Nat.le_refl _) (by simp)))
      clear hbut hr
      replace hb := below_next hb hb.size hv
      replace kq := keeps hv kq
      clear hv
      obtain ⟨s0, s1, s2, _, _, _⟩ := blk3t (ks.trans rfl)
      obtain ⟨gA, hA, hx⟩ := hfl.out _ hb
      rw [hA] at s2
      have dq : w5.cell? ⟨q, j, none⟩ = some u := by simp [World.cell?, kq, ← hcl]
      have fq : w5.frozen? ⟨q, j, none⟩ = false := by simp [World.frozen?, kq]
      replace hcl := Lib.hid hcl
      replace hA := Lib.hid hA
      go_wp2
      have hst := store1 (o := j) (v := .float .f64 x) kq
      have hset : (pre ++ u :: rest).toArray.setIfInBounds j (.float .f64 x) = (pre ++ .float .f64 x :: rest).toArray := by
        have := set_at pre u (.float .f64 x) rest
        rw [hcl.out] at this
        exact this
      rw [hset] at hst
      exact ⟨⟨j + 1, rest, by omega, by go_num, hb.setCell (p := ⟨q, j, none⟩) hq _, by simp at hrl; omega, by rw [hnx.out, List.append_assoc]; exact hst⟩, leftT (by assumption)⟩
    · obtain rfl : j = L := by omega
      have e1 : ¬ (j : Int) < (j : Int) := by omega
      obtain rfl : rest = [] := List.eq_nil_of_length_eq_zero (by rw [hrl]; omega)
      rw [List.append_nil, hLl.out, List.take_length] at kq
      go_wp2
      refine bodyPost_ret (v := .tuple #[.slice (some ⟨q, 0, none⟩) j j, .bool true]) (by simp [results, Try.results13, go_sem]) rfl ⟨q, rfl, hb, At0.of_block kq⟩
end Go.Proofs.Ytnaakklfbegldaa
