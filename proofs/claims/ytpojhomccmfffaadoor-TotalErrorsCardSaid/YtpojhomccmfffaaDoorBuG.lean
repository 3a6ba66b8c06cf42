/-
  Windows: what a book of one answers; the law's fixed fact.
-/
import Derived.Test.YtpojhomccmfffaaDoorBuF
namespace Go.Proofs.YtpojhomccmfffaaDoor
open Go.RowKit Flow F
set_option linter.unusedVariables false
set_option linter.unusedSimpArgs false

set_option maxRecDepth 20000 in
set_option maxHeartbeats 4000000 in
theorem bget_hit (q : Nat) (x : Ci) (p : Int) (s : ByteArray) (W mn mx : Int) (g cp g2 n cap : Nat) (st m : Int) (c : Nat → Nat) (cl : Bool) (xs : List Int) (hxl : xs.length = n) (h0 : 0 < n) (hn : n ≤ 4096) (w : World) (hq : w.heap[q]? = some (.cells (book x p s W mn mx (.slice (some ⟨g, 0, none⟩) 1 cp)).toArray 143 (0, 0))) (hg : At0 w g (bks st (.slice (some ⟨g2, 0, none⟩) n cap) m c cl)) (hr : Row w g2 xs) :
    Calls Tryd.prog 38 #[.pointer (some ⟨q, 0, none⟩), .int .u64 st] w fun e w' => ∃ g3 c3, e = .returned (.tuple #[.agg (bks st (.slice (some ⟨g3, 0, none⟩) n c3) m c cl).toArray, .bool true]) ∧ Below w.heap.size w w' ∧ w.heap.size ≤ g3 ∧ w'.ownsRow w.heap.size 65 2 (.slice (some ⟨g3, 0, none⟩) n c3) n (ecells xs) := by
  have hF := Lib.hid (fun w hq hg => bfind_hit q x p s W mn mx g cp st (.slice (some ⟨g2, 0, none⟩) n cap) m c cl w hq hg)
  have hC := Lib.hid (fun w hr => copied_ok st g2 n cap m c cl xs hxl h0 hn w hr)
  clear hxl h0 hn
  go_enter Tryd.func38, Tryd.ntmps38
  go_upto_region 1 with (fail)
  refine name_wp (fun w1 => Below w.heap.size w w1 ∧ w1.heap[w.heap.size]? = some (.cells noBk.toArray 95 (0, 0)) ∧ w1.heap[q]? = some (.cells (book x p s W mn mx (.slice (some ⟨g, 0, none⟩) 1 cp)).toArray 143 (0, 0)) ∧ At0 w1 g (bks st (.slice (some ⟨g2, 0, none⟩) n cap) m c cl) ∧ Row w1 g2 xs)
    ⟨(Below.refl _ _).alloc (Nat.le_refl _) _, alloc_at rfl, alloc_keeps hq, hg.up ((Below.refl _ _).alloc (Nat.le_refl _) _), hr.alloc _⟩ ?_
  clear hq hg hr
  rintro w1 ⟨hb, k0, hq, hg, hr⟩
  go_wp2_with fail
  refine call_then (hF.out _ hq hg) ?_
  intro w2 hv
  replace k0 := keeps hv k0
  replace hq := keeps hv hq
  replace hg := hg.up hv
  replace hr := hr.up hv
  replace hb := below_next hb hb.size hv
  clear hv hF
  have c11 := (book_cells hq).2.2.1
  go_wp2_with (first
    | (refine list_load_mid _ _ _ 0 _ _ rfl rfl rfl hg Tryd.underlying95 rfl (by rw [bks_len]; kernel_rfl) ?_))
  refine (hC.out _ hr).mono ?_
  rintro e w3 ⟨g3, c3, rfl, hv, hg3, hown⟩
  have hg0 := Nat.lt_of_lt_of_le (lt_of_get k0) hg3
  have hw2 := hb.size
  replace k0 := keeps hv k0
  replace hb := below_next hb hb.size hv
  clear hv hC c11 hq hg hr
  have hone := Lib.hid (one_bks (A := some ⟨g3, 0, none⟩) (n := n) (cp := c3) st m c cl)
  go_wp2_with (first
    | (refine list_store_whole _ _ _ _ (bks st (.slice (some ⟨g3, 0, none⟩) n c3) m c cl) noBk 95 rfl rfl rfl rfl k0 (by rw [bks_len]; rfl) (by rw [bks_len]; kernel_rfl) hone.out ?_; intro w7 hbut kr))
  have hbe := hbut.below hb (Nat.le_refl _) hb.size
  have hlv := loadVar_whole (P := Tryd.prog) (ty := 95) _ (At0.of_block kr) Tryd.underlying95 rfl (by rw [bks_len]; kernel_rfl)
  have hown7 : w7.ownsRow w.heap.size 65 2 (.slice (some ⟨g3, 0, none⟩) n c3) n (ecells xs) := by
    rcases hown with ⟨h1, ⟨e, h0'⟩ | ⟨g4, c4, cur, e, hbg, hcur, hr⟩⟩
    · cases e
    · cases e
      exact ⟨h1, .inr ⟨g3, c3, cur, rfl, by omega, (hbut.block _ (lt_of_get hcur) (by omega)).trans hcur, hr⟩⟩
  exact bodyPost_ret (v := .tuple #[.agg (bks st (.slice (some ⟨g3, 0, none⟩) n c3) m c cl).toArray, .bool true]) (results_cell_tmpT Tryd.results38 rfl hlv rfl) rfl ⟨_, _, rfl, hbe, by omega, hown7⟩
theorem rcode1 : rcode ci1 1 ⟨#[]⟩ 10 1 5 = 0 := by
  unfold rcode
  rw [if_pos task1_good.code]
  decide
set_option maxRecDepth 20000 in
set_option maxHeartbeats 8000000 in
theorem bawake_ok (w : World) (hT : Tabs w) : Calls Tryd.prog 32 #[] w fun e w' => e = .returned (.bool true) ∧ Below w.heap.size w w' := by
  have hS := Lib.hid (fun w => task_nul w)
  have hN := Lib.hid (fun w => (bnew_ok ci1 1 ⟨#[]⟩ (by decide) 10 1 5 rcode1 w : Calls Tryd.prog 35 #[.agg (tcl ci1 1 ⟨#[]⟩).toArray, .agg #[.int .u64 10, .int .i64 1, .int .i64 5]] w _))
  have hA := Lib.hid (fun (w : World) q g (hT : Tabs w) hr hq => (badd_first q ci1 1 ⟨#[]⟩ task1_good 10 1 5 19 id1 id1_ok [1] (some ⟨g, 0, none⟩) 1 1 (by decide) (fun x hx => by simp at hx; omega) rfl (by decide) (by decide) (by decide) (by decide) (by decide) w hT (Row.elems hr) hq : Calls Tryd.prog 39 #[.pointer (some ⟨q, 0, none⟩), .int .u64 19, .agg #[.int .u8 1, .int .u8 0, .int .u8 0, .int .u8 0, .int .u8 0, .int .u8 0, .int .u8 0, .int .u8 0, .int .u8 0, .int .u8 0, .int .u8 0, .int .u8 0, .int .u8 0, .int .u8 0, .int .u8 0, .int .u8 0], .slice (some ⟨g, 0, none⟩) 1 1] w _))
  rw [show startF 10 19 = 10 by decide, show List.zipWith (add ci1.f) (List.replicate 1 0) [1] = [1] by decide] at hA
  generalize chk id1 = H at *
  have hG := Lib.hid (fun (w : World) q g cp g2 hq hg hr => bget_hit q ci1 1 ⟨#[]⟩ 10 1 5 g cp g2 1 1 10 1 H false [1] rfl (by decide) (by decide) w hq hg hr)
  have hSt := Lib.hid (fun w => (start_any 10 1 5 19 (by decide) (by decide) (by decide) (by decide) w : Calls Tryd.prog 34 #[.agg #[.int .u64 10, .int .i64 1, .int .i64 5], .int .u64 19] w _))
  rw [show startF 10 19 = 10 by decide] at hSt
  replace hT := Lib.hid hT
  go_enter Tryd.func32, Tryd.ntmps32
  go_upto_region 2 with (fail)
  refine name_wp (fun w1 => Below w.heap.size w w1 ∧ w1.heap[w.heap.size]? = some (.cells (rul 10 1 5).toArray 80 (0, 0))) ⟨?_, ?_⟩ ?_
  · exact (Below.refl _ _).alloc (Nat.le_refl _) _
  · exact alloc_at rfl
  rintro w1 ⟨hb, k0⟩
  refine segS_start (gb := fun _ => True) 9 (by kernel_rfl) (by decide) ?_
  intro v0 hv
  replace k0 := keeps hv k0
  replace hb := below_next hb hb.size hv
  clear hv
  refine segS_batch 6 [0, 1, 2] (by kernel_rfl) rfl (by kernel_rfl) (by kernel_rfl) (by kernel_rfl) ?_
  apply Exists.intro
  refine ⟨fun ι _ φ hφ => ?_, fun v1 hv => ?_⟩
  · repeat (refine pick_step rfl ?_; first
      | (refine quiet_load_mid _ _ _ 0 _ _ rfl rfl rfl (mid_familyT hφ (At0.of_block k0) trivial) Tryd.underlying80 rfl (by kernel_rfl) ?_; simp only [Act.put, List.setIfInBounds_toArray, List.set_cons_succ, List.set_cons_zero])
      | go_big_quiet_step ((go_at_call 12; exact flowS_call hφ (hS.out _))))
    exact pick_end
  replace k0 := keeps hv k0
  replace hb := below_next hb hb.size hv
  clear hv hS
  refine segS_one 3 _ (by decide) rfl (by kernel_rfl) ?_
  intro v2 K2 hv hK
  replace k0 := keeps hv k0
  replace hb := below_next hb hb.size hv
  clear hv
  replace hK := Lib.hid hK
  go_simp
  refine (hN.out _).mono ?_
  rintro e v3 ⟨q, rfl, hv, hq0, hq⟩
  refine hK.out _ _ (HeldS.of_below hv) ?_
  have hqw : w.heap.size ≤ q := by have := hb.size; omega
  have hqk := Nat.lt_of_lt_of_le (lt_of_get k0) hq0
  replace k0 := keeps hv k0
  replace hb := below_next hb hb.size hv
  clear hv hK K2 hN hq0
  refine segS_batch 0 [4, 5, 6, 7, 8] (by kernel_rfl) rfl (by kernel_rfl) (by kernel_rfl) (by kernel_rfl) ?_
  apply Exists.intro
  refine ⟨fun ι _ φ hφ => ?_, fun v1 hv => ?_⟩
  · repeat (refine pick_step rfl ?_; go_big_quiet_step (fail))
    exact pick_end
  replace k0 := keeps hv k0
  replace hq := keeps hv hq
  replace hb := below_next hb hb.size hv
  clear hv
  refine segS_done rfl (by kernel_rfl) ?_
  intro v5 hv
  replace k0 := keeps hv k0
  replace hq := keeps hv hq
  replace hb := below_next hb hb.size hv
  clear hv
  have hT5 := hT.out.up hb
  have hr5 : Row (v5.alloc (.cells #[.int .u64 1, .int .u64 0] 65 (0, 0))) v5.heap.size [1] := alloc_at rfl
  have hA2 := Lib.hid (hA.out (v5.alloc (.cells #[.int .u64 1, .int .u64 0] 65 (0, 0))) q v5.heap.size (hT5.up ((Below.refl _ _).alloc (Nat.le_refl _) _)) hr5 (alloc_keeps hq))
  replace k0 := alloc_keeps (o := .cells #[.int .u64 1, .int .u64 0] 65 (0, 0)) k0
  replace hb := hb.alloc hb.size (.cells #[.int .u64 1, .int .u64 0] 65 (0, 0))
  clear hr5 hA hq hT5
  go_wp2_with fail
  refine hA2.out.mono ?_
  rintro e w5 ⟨g, g2, cap, rfl, hbut, hg, hg2, hq, hat, hrow⟩
  have hkq := lt_of_get k0
  replace k0 := (hbut.block _ (lt_of_get k0) (by omega)).trans k0
  replace hb := hbut.below hb hqw hb.size
  have hG2 := Lib.hid (hG.out w5 q g cap g2 hq hat hrow)
  clear hA2 hbut hG hq hat hrow
  go_wp2_with fail
  refine hG2.out.mono ?_
  rintro e w6 ⟨g3, c3, rfl, hv, hg3, -⟩
  replace k0 := keeps hv k0
  replace hb := below_next hb hb.size hv
  clear hv hG2
  have hone := Lib.hid (one_bks (A := some ⟨g3, 0, none⟩) (n := 1) (cp := c3) 10 1 H false)
  go_upto_region 5 with (first
    | (refine list_store_whole _ _ _ _ (bks 10 (.slice (some ⟨g3, 0, none⟩) 1 c3) 1 H false) noBk 95 rfl rfl rfl rfl (alloc_at rfl) (by rw [bks_len]; rfl) (by rw [bks_len]; kernel_rfl) hone.out ?_; intro w7 hbut kr))
  have hbA := hb.alloc hb.size (.cells noBk.toArray 95 (0, 0))
  have hlk := lt_of_get k0
  replace k0 : w7.heap[w.heap.size]? = some (.cells (rul 10 1 5).toArray 80 (0, 0)) := (hbut.block _ (by simp; omega) (by omega)).trans (alloc_keeps k0)
  replace hb := hbut.below hbA hb.size hbA.size
  have a2 := At0.of_block kr 2 (.int .i64 1) rfl
  simp only [Nat.zero_add] at a2
  clear hbut hbA hone kr
  generalize w6.heap.size = o at *
  go_wp2_with (first
    | (refine list_load_mid _ _ _ 0 _ _ rfl rfl rfl (At0.of_block k0) Tryd.underlying80 rfl (by kernel_rfl) ?_))
  refine call_then (hSt.out _) ?_
  intro w8 hv
  replace hb := below_next hb hb.size hv
  go_wp2
  go_ret
  exact ⟨rfl, hb⟩
end Go.Proofs.YtpojhomccmfffaaDoor
