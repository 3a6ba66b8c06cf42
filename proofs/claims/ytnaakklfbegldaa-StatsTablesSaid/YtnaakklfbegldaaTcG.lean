/-
  A table's rows: all, copied.
-/
import Derived.Test.YtnaakklfbegldaaTcF
import Derived.Deep.Cut
import Derived.Deep.DeepCutAuto
import Derived.Deep.CutBlock
namespace Go.Proofs.Ytnaakklfbegldaa
open Go.RowKit Flow
set_option linter.unusedVariables false
set_option linter.unusedSimpArgs false

theorem build_at (pre cs old : List Value) (post : List Value) (h : old.length = cs.length) : List.foldl (fun (cs : Array Value) (x : Value × Nat) => cs.setIfInBounds x.2 x.1) (pre ++ old ++ post).toArray (cs.zipIdx pre.length) = (pre ++ cs ++ post).toArray := by
  obtain ⟨h1, h2⟩ := build_get cs pre.length (pre ++ old ++ post).toArray
  refine Array.ext_getElem? fun i => ?_
  by_cases hi : i < (pre ++ old ++ post).toArray.size
  · rw [h2 i hi]
    simp only [List.getElem?_toArray]
    by_cases hp : i < pre.length
    · rw [if_neg (by omega), List.append_assoc, List.append_assoc, List.getElem?_append_left hp, List.getElem?_append_left hp]
    · by_cases hc : i - pre.length < cs.length
      · rw [if_pos ⟨by omega, hc⟩, List.append_assoc, List.getElem?_append_right (by omega), List.getElem?_append_left hc]
      · rw [if_neg (by omega), List.append_assoc, List.append_assoc, List.getElem?_append_right (by omega), List.getElem?_append_right (by omega), List.getElem?_append_right (by omega), List.getElem?_append_right (by omega), h]
  · rw [Array.getElem?_eq_none (by omega), Array.getElem?_eq_none (by simp at hi ⊢; omega)]
theorem list_store_at {P : Program} {ops : Array Oper} {rest : List Oper} {op : Oper} {a : Act} {w : World} {Q : Exit → Act → World → Prop} (ty : TypeId) (x y : Operand) (b o : Nat) (pre cs old post : List Value) (t' : TypeId)
    (hw : Region.wanted op (yielded ops a.tmps) = true) (ho : op.op = .store ty x y) (hx : a.eval x = .pointer (some ⟨b, o, none⟩)) (hy : a.eval y = .agg cs.toArray)
    (hb : w.heap[b]? = some (.cells (pre ++ old ++ post).toArray t' (0, 0))) (hp : pre.length = o) (hl : old.length = cs.length) (hi : (P.info? ty).map (·.size) = some cs.length) (h1 : ∀ u ∈ cs, u.oneCell' = true)
    (h : ∀ w', But b w w' → w'.heap[b]? = some (.cells (pre ++ cs ++ post).toArray t' (0, 0)) → wpList P ops Q rest (a.put op.dst undef) w') : wpList P ops Q (op :: rest) a w :=
  wpList_step fun _ hK => by
    rw [if_pos hw]
    refine wp_store_mid ty x y ho b o cs.toArray hx hy (fun j hj => ?_) (by simpa using hi) (by simpa using h1) (hK _ _ (h _ ((But.refl b w).setCells cs o w) ?_))
    · have hj' : j < old.length := by rw [hl]; simpa using hj
      have hj2 : o + j < (pre ++ old ++ post).length := by simp only [List.length_append]; omega
      simp [World.cell?, World.frozen?, hb]
      simp only [List.length_append] at hj2
      omega
    · rw [heap_setCells _ _ _ _ _ _ _ hb, ← hp, build_at _ _ _ _ hl]
theorem make_rows (n : Nat) (hn : n ≤ 100) (w : World) : ∃ ROW : Array Value, ROW.size = n * 3 ∧ (Instr.makeSlice 22 (.int .i64 (n : Int)) (.int .i64 (n : Int))).run Try.prog w = .ok (.slice (some ⟨w.heap.size, 0, none⟩) n n) (w.alloc (.cells ROW 29)) := by
  obtain ⟨i0, z0, hinf, hz0, hz1, hz2, hz3⟩ := info_parts5 info_row
  have hr := run_make (P := Try.prog) w 22 29 i0 z0 Try.underlying22 hinf hz0 .i64 .i64 n n (by omega) (by omega) (by rw [hz2]; omega) (by omega)
  simp only [Int.toNat_natCast] at hr
  rw [hz1] at hr
  exact ⟨_, size_madeCells _ _, hr⟩
theorem leftT {n L : Nat} (h : n < L) : L - (intOf (.int .i64 ((n : Int) + 1))).toNat < L - (intOf (.int .i64 (n : Int))).toNat := by
  show L - ((n : Int) + 1).toNat < L - ((n : Int)).toNat
  omega
/-- Two rows say the same. -/
structure SameT (s u : TR) : Prop where
  t : s.t = u.t
  m : s.m = u.m
  xs : s.xs = u.xs
def RowsOut (l : List TR) (L : Nat) (w : World) (e : Ending) (w' : World) : Prop := ∃ q M, e = .returned (.slice (some ⟨q, 0, none⟩) L L) ∧ Below w.heap.size w w' ∧ M.length = L ∧ At0 w' q (rowT M) ∧ ∀ i, i < L → SameT (tnth M i) (tnth l i) ∧ FlAt w' (tnth M i)
theorem tnth_app {M : List TR} {s : TR} (i : Nat) : tnth (M ++ [s]) i = if i < M.length then tnth M i else if i = M.length then s else ⟨0, 0, none, 0, []⟩ := by
  unfold tnth
  rw [List.getD_eq_getElem?_getD]
  by_cases h1 : i < M.length
  · rw [if_pos h1, List.getElem?_append_left h1, List.getD_eq_getElem?_getD]
  · rw [if_neg h1, List.getElem?_append_right (by omega)]
    by_cases h2 : i = M.length
    · rw [if_pos h2, h2, Nat.sub_self]; rfl
    · rw [if_neg h2, List.getElem?_eq_none (by simp; omega)]; rfl
set_option maxRecDepth 20000 in
set_option maxHeartbeats 8000000 in
theorem rows_any (p base : Nat) (l : List TR) (a : Option Addr) (L cap : Nat) (w : World) (h : Tb p base l (.slice a L cap) w) (hxl : ∀ s, s ∈ l → s.xs.length ≤ 1000) :
    Calls Try.prog 11 #[.pointer (some ⟨p, 0, none⟩)] w (RowsOut l L w) := by
  obtain ⟨hLl, hcell⟩ : L = l.length ∧ ∀ w, Tb p base l (.slice a L cap) w → ∀ i, i < L → ∃ g, a = some ⟨g, 0, none⟩ ∧ w.rangeAt g (i * 3) (tnth l i).cells := by
    rcases tb_slice h with ⟨e, rfl⟩ | ⟨g, cap2, e⟩
    · cases e
      exact ⟨rfl, fun w _ i hi => absurd hi (Nat.not_lt_zero _)⟩
    · cases e
      exact ⟨rfl, fun w h i hi => ⟨g, rfl, trow_at h.row hi⟩⟩
  have hL1 : L ≤ 32 := by rw [hLl]; exact h.few
  have hcp := Lib.hid (fun (s : TR) (hn : s.xs.length ≤ 1000) w h => copied_news s.t s.m s.A s.xs.length s.c (s.xs.map (Value.float .f64)) (fun u hu => by obtain ⟨x, _, rfl⟩ := List.mem_map.1 hu; rfl) hn w h)
  unfold FlOut at hcp
  unfold RowsOut
  obtain ⟨ROW, hR, hmk⟩ := make_rows L (by omega) w
  obtain ⟨c0, _⟩ := blk1t h.hp
  replace hLl := Lib.hid hLl
  replace hcell := Lib.hid hcell
  go_enter Try.func11, Try.ntmps11
  go_upto_region 4 with (fail)
  have hb := (Below.refl w.heap.size w).alloc (Nat.le_refl _) (.cells ROW 29 (0, 0))
  have kq := alloc_at (w := w) (k := w.heap.size) (o := .cells ROW 29 (0, 0)) rfl
  clear hmk c0
  generalize w.alloc (.cells ROW 29 (0, 0)) = w2 at *
  obtain ⟨q, hq⟩ : ∃ q, w.heap.size = q := ⟨_, rfl⟩
  have hup : ∀ w', Below q w w' → Tb p base l (.slice a L cap) w' := fun w' hb => h.below (by rw [hq]; exact hb)
  have hqs : ∀ w', Below q w w' → q ≤ w'.heap.size := fun w' hb => by have := hb.size; omega
  rw [hq] at kq hb ⊢
  obtain ⟨c0, _⟩ := blk1t (hup _ hb).hp
  go_wp2
  go_loopw [19] (fun i wr => ∃ (j : Nat) (M : List TR) (rest : List Value), j ≤ L ∧ i = .int .i64 (j : Int) ∧ Below q w wr ∧ M.length = j ∧ rest.length = (L - j) * 3 ∧ wr.heap[q]? = some (.cells (rowT M ++ rest).toArray 29 (0, 0)) ∧ Hid (∀ i, i < j → SameT (tnth M i) (tnth l i) ∧ FlAt wr (tnth M i) ∧ ∀ g, (tnth M i).A = some ⟨g, 0, none⟩ → g ≠ q)) (fun i _ => L - (intOf i).toNat)
  case atStart => exact ⟨0, [], ROW.toList, Nat.zero_le _, rfl, hb, rfl, by simp [hR], by simpa [rowT] using kq, Lib.hid (fun i hi => absurd hi (Nat.not_lt_zero _))⟩
  case round =>
    clear hb kq c0
    obtain ⟨j, M, rest, hj, rfl, hb, hM, hrl, kq, hin⟩ := hrel
    by_cases hjl : j < L
    · have e1 : (j : Int) < (L : Int) := by omega
      have e2 : (0 : Int) ≤ (j : Int) := by omega
      obtain ⟨g, rfl, hr⟩ := hcell.out _ (hup _ hb) j hjl
      have hmem : tnth l j ∈ l := tnth_mem (by rw [← hLl.out]; exact hjl)
      have hnw := fun w' hb' => ((hup w' hb').fl _ hmem).news
      have hlen : (tnth l j).xs.length ≤ 1000 := hxl _ hmem
      obtain ⟨s, hs⟩ : ∃ s, tnth l j = s := ⟨_, rfl⟩
      rw [hs] at hr hnw hlen
      have hcp2 := Lib.hid (fun w h => hcp.out s hlen w h)
      have hi3 : ((Try.prog).info? 29).map (·.size) = some (rowc s.t s.m (.slice s.A s.xs.length s.c)).length := by kernel_rfl
      replace hr : wr.rangeAt g (j * 3) (rowc s.t s.m (.slice s.A s.xs.length s.c)) := hr
      have h30 : (rest.take 3).length = 3 := by rw [List.length_take, hrl]; omega
      have kq2 : wr.heap[q]? = some (.cells (rowT M ++ rest.take 3 ++ rest.drop 3).toArray 29 (0, 0)) := by rw [List.append_assoc, List.take_append_drop]; exact kq
      have hml : (rowT M).length = j * 3 := by rw [rowT_len, hM]
      replace hs := Lib.hid hs
      replace hnw := Lib.hid hnw
      clear kq
      have hqr := hqs _ hb
      go_upto_region 7 with (first
        | (refine list_load_mid _ _ _ (j * 3) _ _ rfl rfl rfl hr Try.underlying29 rfl hi3 ?_)
        | (refine list_store_whole _ _ _ _ (rowc s.t s.m (.slice s.A s.xs.length s.c)) [.int .u64 0, .int .i64 0, .slice none 0 0] 29 rfl rfl rfl rfl (alloc_at rfl) rfl (by kernel_rfl) rowc_one ?_; intro w5 hbut ks; have hv := hbut.below ((Below.refl wr.heap.size wr).alloc (Nat.le_refl _) _) (Nat.le_refl _) (by simp)))
      have hql : q < wr.heap.size := lt_of_get kq2
      clear hbut hr
      replace hb := below_next hb hqr hv
      replace kq2 := keeps hv kq2
      replace hin := Lib.hid (fun i hi => (⟨(hin.out i hi).1, (hin.out i hi).2.1.up hv, (hin.out i hi).2.2⟩ : SameT (tnth M i) (tnth l i) ∧ FlAt w5 (tnth M i) ∧ ∀ g, (tnth M i).A = some ⟨g, 0, none⟩ → g ≠ q))
      have hq5 : q < w5.heap.size := Nat.lt_of_lt_of_le hql hv.size
      clear hv
      go_wp2_with (first | (refine list_load_mid _ _ _ 0 _ _ rfl rfl rfl (At0.of_block ks) Try.underlying29 rfl hi3 ?_))
      refine (hcp2.out _ (hnw.out _ hb)).mono ?_
      rintro e w6 ⟨A2, c2, rfl, hv, hown⟩
      replace hb := below_next hb (by omega) hv
      replace kq2 := keeps hv kq2
      replace hin := Lib.hid (fun i hi => (⟨(hin.out i hi).1, (hin.out i hi).2.1.up hv, (hin.out i hi).2.2⟩ : SameT (tnth M i) (tnth l i) ∧ FlAt w6 (tnth M i) ∧ ∀ g, (tnth M i).A = some ⟨g, 0, none⟩ → g ≠ q))
      have hq6 : q < w6.heap.size := Nat.lt_of_lt_of_le hq5 hv.size
      clear hv ks hcp2 hnw
      have hfn : FlAt w6 ⟨s.t, s.m, A2, c2, s.xs⟩ := own_fl hown rfl
      have hgn : ∀ g, A2 = some ⟨g, 0, none⟩ → g ≠ q := fun g e => by
        have := (hown.lt g (by rw [e]; rfl)).1
        omega
      replace hfn := Lib.hid hfn
      replace hgn := Lib.hid hgn
      clear hown
      go_wp2_with (first
        | (refine list_store_at _ _ _ q (j * 3) (rowT M) (rowc s.t s.m (.slice A2 s.xs.length c2)) (rest.take 3) (rest.drop 3) 29 rfl rfl rfl rfl kq2 hml h30 (by kernel_rfl) rowc_one ?_; intro w7 hbut kq7; have hb7 := hbut.below hb (Nat.le_refl _) (Nat.le_of_lt hq6)))
      refine ⟨⟨j + 1, M ++ [⟨s.t, s.m, A2, c2, s.xs⟩], rest.drop 3, by omega, by go_num, hb7, by simp [hM], by rw [List.length_drop, hrl]; omega, ?_, Lib.hid (fun i hi => ?_)⟩, leftT (by assumption)⟩
      · rw [show rowT (M ++ [⟨s.t, s.m, A2, c2, s.xs⟩]) = rowT M ++ rowc s.t s.m (.slice A2 s.xs.length c2) by unfold rowT; rw [List.flatMap_append]; simp [TR.cells]]
        exact kq7
      · rw [tnth_app, hM]
        by_cases h1 : i < j
        · rw [if_pos h1]
          obtain ⟨ha, hb, hc⟩ := hin.out i h1
          exact ⟨ha, hb.kept (fun g hg hx => hbut.block g (hb.lt hg hx) (hc g hg)), hc⟩
        · obtain rfl : i = j := by omega
          rw [if_neg (Nat.lt_irrefl _), if_pos rfl, hs.out]
          exact ⟨⟨rfl, rfl, rfl⟩, hfn.out.kept (fun g hg hx => hbut.block g (hfn.out.lt hg hx) (hgn.out g hg)), hgn.out⟩
    · obtain rfl : j = L := by omega
      have e1 : ¬ (j : Int) < (j : Int) := by omega
      obtain rfl : rest = [] := List.eq_nil_of_length_eq_zero (by rw [hrl]; omega)
      go_wp2
      go_ret
      refine ⟨q, rfl, hb, M, hM, At0.of_block (by simpa using kq), fun i hi => ⟨(hin.out i hi).1, (hin.out i hi).2.1⟩⟩
end Go.Proofs.Ytnaakklfbegldaa
