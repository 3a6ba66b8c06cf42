/-
  BucketNone: its walk.
-/
import Derived.Test.YtpojhomccmfffaaDoorBuL
import Derived.Test.YtpojhomccmfffaaDoorBA
namespace Go.Proofs.YtpojhomccmfffaaDoor
open Go.RowKit Flow F
set_option linter.unusedVariables false
set_option linter.unusedSimpArgs false
attribute [local go_sem] eql_elem

theorem own_elem1 {w : World} {base g c : Nat} {x : Int} (h : w.ownsRow base 65 2 (.slice (some ⟨g, 0, none⟩) 1 c) 1 (ecells [x])) : base ≤ g ∧ ∃ cur, w.heap[g]? = some (.cells cur 65 (0, 0)) ∧ w.cell? ⟨g, 0, none⟩ = some (.int .u64 (lo x)) ∧ w.cell? ⟨g, 1, none⟩ = some (.int .u64 (hi x)) ∧ w.frozen? ⟨g, 0, none⟩ = false ∧ w.frozen? ⟨g, 1, none⟩ = false := by
  have hc := h.cells (g := g) rfl
  rcases h.2 with ⟨e, h0'⟩ | ⟨g4, c4, cur, e, hbg, hcur, hr⟩
  · cases e
  · cases e
    have a := hc 0 (.int .u64 (lo x)) rfl
    have b := hc 1 (.int .u64 (hi x)) rfl
    rw [Addr.add_mid] at a b
    exact ⟨hbg, cur, hcur, a, b, by simp [World.frozen?, hcur], by simp [World.frozen?, hcur]⟩
set_option maxRecDepth 20000 in
set_option maxHeartbeats 8000000 in
theorem none_walk (now : Int) (ns : List Nat) (hns : IdOK ns) (B : Option Addr) (n cB : Nat) (hn : n ≤ maxLen) (n0 : 0 ≤ now) (n1 : now < 18446744073709551616) (w : World) (hT : Tabs w) :
    Calls Tryd.prog 9 #[.int .u64 now, .agg (idc ns).toArray, .slice B n cB] w fun e w' => e = .returned (.bool true) ∧ Below w.heap.size w w' := by
  unfold maxLen at hn
  have hil := Lib.hid (idc_len hns)
  have hT0 := Lib.hid hT
  have ht0 : 0 ≤ now % 100 := by omega
  have ht1 : now % 100 ≤ 1099511627776 := by omega
  have hst : startF 10 (now % 100) = now % 100 / 10 * 10 := by
    simp only [startF]
    rw [if_neg (by decide)]
    omega
  have hS := Lib.hid (fun w => task_nul w)
  have hN := Lib.hid (fun w => (bnew_ok ci1 1 ⟨#[]⟩ (by decide) 10 1 5 rcode1 w : Calls Tryd.prog 35 #[.agg (tcl ci1 1 ⟨#[]⟩).toArray, .agg #[.int .u64 10, .int .i64 1, .int .i64 5]] w _))
  have hA := Lib.hid (fun (w : World) q g (hT : Tabs w) hr hq => (badd_first q ci1 1 ⟨#[]⟩ task1_good 10 1 5 (now % 100) ns hns [3] (some ⟨g, 0, none⟩) 1 1 (by decide) (fun x hx => by simp at hx; omega) rfl (by decide) (by decide) ht0 ht1 (by decide) w hT (Row.elems hr) hq : Calls Tryd.prog 39 #[.pointer (some ⟨q, 0, none⟩), .int .u64 (now % 100), .agg (idc ns).toArray, .slice (some ⟨g, 0, none⟩) 1 1] w _))
  rw [show List.zipWith (add ci1.f) (List.replicate 1 0) [3] = [3] by decide, hst] at hA
  obtain ⟨st, hstv⟩ : ∃ st, now % 100 / 10 * 10 = st := ⟨_, rfl⟩
  rw [hstv] at hA
  generalize chk ns = H at *
  have hG := Lib.hid (fun (w : World) q g cp g2 hq hg hr => bget_hit q ci1 1 ⟨#[]⟩ 10 1 5 g cp g2 1 1 st 1 H false [3] rfl (by decide) (by decide) w hq hg hr)
  have hCl := Lib.hid (fun w => close_none now w)
  have hGn := Lib.hid (fun w => bget_none now w)
  have hFn := Lib.hid (fun w => fits_none now w)
  have hAn := Lib.hid (fun o w => badd_none now ns o w)
  have hLn := Lib.hid (fun w => blist_none w)
  have hRn := Lib.hid (fun w => brules_none w)
  replace hstv := Lib.hid hstv
  clear hst hns hT ht0 ht1
  by_cases hbig : 40 < n
  · have b1 : decide ((n : Int) > 40) = true := by rw [decide_eq_true_eq]; omega
    go_enter Tryd.func9, Tryd.ntmps9
    go_upto_region 1 with (fail)
    have hb := (Below.refl w.heap.size w).alloc (Nat.le_refl _) (.cells (idc ns).toArray 51 (0, 0))
    have hA1 := Lib.hid (bawake_ok (w.alloc (.cells (idc ns).toArray 51 (0, 0))) (hT0.out.up hb))
    go_wp2_with fail
    refine call_then hA1.out ?_
    intro w2 hv
    replace hb := below_next hb (by simp) hv
    go_wp2
    go_ret
    exact ⟨rfl, hb⟩
  · have b1 : decide ((n : Int) > 40) = false := by rw [decide_eq_false_iff_not]; omega
    go_enter Tryd.func9, Tryd.ntmps9
    go_upto_region 1 with (fail)
    refine name_wp (fun w1 => Below w.heap.size w w1 ∧ w1.heap[w.heap.size]? = some (.cells (idc ns).toArray 51 (0, 0)))
      ⟨(Below.refl _ _).alloc (Nat.le_refl _) _, alloc_at rfl⟩ ?_
    rintro w1 ⟨hb, ki⟩
    have hA1 := Lib.hid (bawake_ok w1 (hT0.out.up hb))
    go_wp2_with fail
    refine call_then hA1.out ?_
    intro w2 hv
    replace ki := keeps hv ki
    replace hb := below_next hb hb.size hv
    clear hv hA1
    go_wp2_with fail
    refine call_then (hCl.out _) ?_
    intro w3 hv
    replace ki := keeps hv ki
    replace hb := below_next hb hb.size hv
    clear hv hCl
    have hone := Lib.hid (one_tot (A := none) (n := 0) (cp := 0) 0 (fun _ => 0))
    go_upto_region 7 with (first
      | (refine list_store_whole _ _ _ _ noTot noTot 39 rfl rfl rfl rfl (alloc_at rfl) rfl (by kernel_rfl) hone.out ?_; intro w4 hbut kr))
    have hbA := hb.alloc hb.size (.cells noTot.toArray 39 (0, 0))
    have hlk := lt_of_get ki
    replace ki := (hbut.block _ (by simp; omega) (by omega)).trans (alloc_keeps (o := .cells noTot.toArray 39 (0, 0)) ki)
    skip
    replace hb := hbut.below hbA hb.size hbA.size
    clear hbut hbA hlk
    clear kr hone
    generalize w3.heap.size = o1 at *
    go_wp2_with fail
    refine call_then (hGn.out _) ?_
    intro w5 hv
    replace ki := keeps hv ki
    replace hb := below_next hb hb.size hv
    clear hv hGn
    have hone := Lib.hid (one_bks (A := none) (n := 0) (cp := 0) 0 0 (fun _ => 0) false)
    go_upto_region 8 with (first
      | (refine list_store_whole _ _ _ _ noBk noBk 95 rfl rfl rfl rfl (alloc_at rfl) rfl (by kernel_rfl) hone.out ?_; intro w6 hbut kr))
    have hbA := hb.alloc hb.size (.cells noBk.toArray 95 (0, 0))
    have hlk := lt_of_get ki
    replace ki := (hbut.block _ (by simp; omega) (by omega)).trans (alloc_keeps (o := .cells noBk.toArray 95 (0, 0)) ki)
    skip
    replace hb := hbut.below hbA hb.size hbA.size
    clear hbut hbA hlk
    clear kr hone
    generalize w5.heap.size = o2 at *
    go_wp2_with fail
    refine call_then (hS.out _) ?_
    intro w7 hv
    replace ki := keeps hv ki
    replace hb := below_next hb hb.size hv
    clear hv hS
    go_wp2_with fail
    refine (hN.out _).mono ?_
    rintro e w8 ⟨q, rfl, hv, hq0, hq⟩
    have hqi := Nat.lt_of_lt_of_le (lt_of_get ki) hq0
    have hqw : w.heap.size ≤ q := by omega
    replace ki := keeps hv ki
    replace hb := below_next hb hb.size hv
    clear hv hN hq0
    have hT5 := hT0.out.up hb
    have hr5 : Row (w8.alloc (.cells #[.int .u64 3, .int .u64 0] 65 (0, 0))) w8.heap.size [3] := alloc_at rfl
    have hA2 := Lib.hid (hA.out (w8.alloc (.cells #[.int .u64 3, .int .u64 0] 65 (0, 0))) q w8.heap.size (hT5.up ((Below.refl _ _).alloc (Nat.le_refl _) _)) hr5 (alloc_keeps hq))
    have kiA := alloc_keeps (o := .cells #[.int .u64 3, .int .u64 0] 65 (0, 0)) ki
    have hbA := hb.alloc hb.size (.cells #[.int .u64 3, .int .u64 0] 65 (0, 0))
    clear hr5 hA hq hT5
    go_wp2_with (first
      | (refine list_load_mid _ _ _ 0 _ _ rfl rfl rfl (At0.of_block ki) Tryd.underlying51 rfl (by rw [hil.out]; kernel_rfl) ?_))
    refine hA2.out.mono ?_
    rintro e w9 ⟨g, g2, cap, rfl, hbut, hg, hg2, hq, hat, hrow⟩
    replace ki := (hbut.block _ (lt_of_get kiA) (by omega)).trans kiA
    replace hb := hbut.below hbA hqw hbA.size
    have hG2 := Lib.hid (hG.out w9 q g cap g2 hq hat hrow)
    have lq := lt_of_get hq
    have lg : g < w9.heap.size := World.block_lt_of_cell? _ _ (hat 0 _ rfl)
    have lg2 := lt_of_get hrow
    have li := lt_of_get ki
    clear hA2 hbut hbA kiA
    have hs2 := hstv.out
    go_wp2_with fail
    refine hG2.out.mono ?_
    rintro e wa ⟨g3, c3, rfl, hv, hg3, hown⟩
    obtain ⟨-, cur, hcur, e0, e1, f0, f1⟩ := own_elem1 hown
    have l3 := lt_of_get hcur
    replace ki := keeps hv ki
    replace hq := keeps hv hq
    replace hat := hat.up hv
    replace hrow := hrow.up hv
    replace hb := below_next hb hb.size hv
    clear hv hG2 hown
    have hone := Lib.hid (one_bks (A := some ⟨g3, 0, none⟩) (n := 1) (cp := c3) st 1 H false)
    go_upto_region 11 with (first
      | (refine list_store_whole _ _ _ _ (bks st (.slice (some ⟨g3, 0, none⟩) 1 c3) 1 H false) noBk 95 rfl rfl rfl rfl (alloc_at rfl) (by rw [bks_len]; rfl) (by rw [bks_len]; kernel_rfl) hone.out ?_; intro wb hbut kr))
    have hbA := hb.alloc hb.size (.cells noBk.toArray 95 (0, 0))
    have up : ∀ k, k < wa.heap.size → wb.heap[k]? = wa.heap[k]? := fun k hk => (hbut.block _ (by simp; omega) (by omega)).trans (Below.heap_alloc wa _ _ hk)
    replace ki := (up _ (lt_of_get ki)).trans ki
    replace hq := (up _ (lt_of_get hq)).trans hq
    replace hrow : Row wb g2 [3] := (up _ (lt_of_get hrow)).trans hrow
    replace hat : At0 wb g (bks st (.slice (some ⟨g2, 0, none⟩) 1 1) 1 H false) := fun j u hj => by
      have h0 := hat j u hj
      rw [World.cell?_of_block (up _ (World.block_lt_of_cell? _ _ h0))]
      exact h0
    replace hcur := (up _ l3).trans hcur
    replace e0 := (World.cell?_of_block (a := ⟨g3, 0, none⟩) (up _ l3)).trans e0
    replace e1 := (World.cell?_of_block (a := ⟨g3, 1, none⟩) (up _ l3)).trans e1
    have f0 : wb.frozen? ⟨g3, 0, none⟩ = false := by simp [World.frozen?, hcur]
    have f1 : wb.frozen? ⟨g3, 1, none⟩ = false := by simp [World.frozen?, hcur]
    replace hb := hbut.below hbA hb.size hbA.size
    have a1 := At0.of_block kr 1 (.slice (some ⟨g3, 0, none⟩) 1 c3) rfl
    simp only [Nat.zero_add] at a1
    clear hbut hbA up hone kr hcur
    have h3o : g3 < wa.heap.size := l3
    generalize wa.heap.size = o3 at *
    clear hqi hg hg2
    go_wp2
    refine wp_loop_rounds 2 ?_
    rw [rounds_succ]
    go_wp2
    rw [rounds_succ]
    go_wp2_with fail
    refine name_calls (fun wc => Below w.heap.size w wc ∧ wc.heap[w.heap.size]? = some (.cells (idc ns).toArray 51 (0, 0)) ∧ wc.heap[q]? = some (.cells (book ci1 1 ⟨#[]⟩ 10 1 5 (.slice (some ⟨g, 0, none⟩) 1 cap)).toArray 143 (0, 0)) ∧ At0 wc g (bks st (.slice (some ⟨g2, 0, none⟩) 1 1) 1 H false) ∧ Row wc g2 [3])
      ⟨(hb.setCell (p := ⟨g3, 0, none⟩) (by show w.heap.size ≤ g3; omega) _).setCell (p := ⟨g3, 1, none⟩) (by show w.heap.size ≤ g3; omega) _, store_far (store_far ki (by show w.heap.size ≠ g3; omega)) (by show w.heap.size ≠ g3; omega), store_far (store_far hq (by show q ≠ g3; omega)) (by show q ≠ g3; omega), (hat.far (by omega)).far (by omega), store_far (store_far hrow (by show g2 ≠ g3; omega)) (by show g2 ≠ g3; omega)⟩ ?_
    clear hb ki hq hat hrow e0 e1 f0 f1 a1
    rintro wc ⟨hb, ki, hq, hat, hrow⟩
    have hG3 := Lib.hid (hG.out wc q g cap g2 hq hat hrow)
    clear hG hq hat hrow
    refine hG3.out.mono ?_
    rintro e wd ⟨g4, c4, rfl, hv, hg4, hown⟩
    obtain ⟨-, cur, hcur, e0, e1, -, -⟩ := own_elem1 hown
    have l4 := lt_of_get hcur
    replace ki := keeps hv ki
    replace hb := below_next hb hb.size hv
    clear hv hG3 hown
    have hone := Lib.hid (one_bks (A := some ⟨g4, 0, none⟩) (n := 1) (cp := c4) st 1 H false)
    go_upto_region 17 with (first
      | (refine list_store_whole _ _ _ _ (bks st (.slice (some ⟨g4, 0, none⟩) 1 c4) 1 H false) noBk 95 rfl rfl rfl rfl (alloc_at rfl) (by rw [bks_len]; rfl) (by rw [bks_len]; kernel_rfl) hone.out ?_; intro we hbut kr))
    have hbA := hb.alloc hb.size (.cells noBk.toArray 95 (0, 0))
    have up : ∀ k, k < wd.heap.size → we.heap[k]? = wd.heap[k]? := fun k hk => (hbut.block _ (by simp; omega) (by omega)).trans (Below.heap_alloc wd _ _ hk)
    replace ki := (up _ (lt_of_get ki)).trans ki
    replace e0 : we.cell? ⟨g4, 0, none⟩ = some (.int .u64 3) := (World.cell?_of_block (a := ⟨g4, 0, none⟩) (up _ l4)).trans e0
    replace e1 : we.cell? ⟨g4, 1, none⟩ = some (.int .u64 0) := (World.cell?_of_block (a := ⟨g4, 1, none⟩) (up _ l4)).trans e1
    replace hb := hbut.below hbA hb.size hbA.size
    have a1 := At0.of_block kr 1 (.slice (some ⟨g4, 0, none⟩) 1 c4) rfl
    simp only [Nat.zero_add] at a1
    clear hbut hbA up hone kr hcur
    generalize wd.heap.size = o4 at *
    go_wp2_with (first
      | (refine list_load_mid _ _ _ 0 _ _ rfl rfl rfl (At0.of_block ki) Tryd.underlying51 rfl (by rw [hil.out]; kernel_rfl) ?_))
    refine call_then (hAn.out _ _) ?_
    intro x1 hv
    replace e0 := (hv.cell (World.block_lt_of_cell? _ _ e0)).trans e0
    replace e1 := (hv.cell (World.block_lt_of_cell? _ _ e1)).trans e1
    replace a1 := (hv.cell (World.block_lt_of_cell? _ _ a1)).trans a1
    replace hb := below_next hb hb.size hv
    clear hv
    go_wp2_with fail
    refine call_then (hFn.out _) ?_
    intro x2 hv
    replace e0 := (hv.cell (World.block_lt_of_cell? _ _ e0)).trans e0
    replace e1 := (hv.cell (World.block_lt_of_cell? _ _ e1)).trans e1
    replace a1 := (hv.cell (World.block_lt_of_cell? _ _ a1)).trans a1
    replace hb := below_next hb hb.size hv
    clear hv
    go_wp2_with fail
    refine call_then (hLn.out _) ?_
    intro x3 hv
    replace e0 := (hv.cell (World.block_lt_of_cell? _ _ e0)).trans e0
    replace e1 := (hv.cell (World.block_lt_of_cell? _ _ e1)).trans e1
    replace a1 := (hv.cell (World.block_lt_of_cell? _ _ a1)).trans a1
    replace hb := below_next hb hb.size hv
    clear hv
    go_wp2_with fail
    refine call_then (hRn.out _) ?_
    intro x4 hv
    replace e0 := (hv.cell (World.block_lt_of_cell? _ _ e0)).trans e0
    replace e1 := (hv.cell (World.block_lt_of_cell? _ _ e1)).trans e1
    replace a1 := (hv.cell (World.block_lt_of_cell? _ _ a1)).trans a1
    replace hb := below_next hb hb.size hv
    clear hv
    go_wp2
    go_ret
    exact ⟨rfl, hb⟩
end Go.Proofs.YtpojhomccmfffaaDoor
