/-
  Windows that are wanted: the law's fixed fact.
-/
import Derived.Test.YtnfikpkbneachaaCoC
namespace Go.Proofs.Ytnfikpkbneachaa
open Go.RowKit Flow
set_option linter.unusedVariables false
set_option linter.unusedSimpArgs false

theorem size_u64s : ∀ w', (sizeOf (Try.prog.elem 52)).run Try.prog w' = .ok 1 w' := fun w' => by kernel_rfl
theorem und_u64s : Try.prog.underlying 52 = some (.slice (Try.prog.elem 52)) := by kernel_rfl
theorem name_any {p : World → Prop} {W : World} (F : World → Prop) (h : F W) (k : ∀ w, F w → p w) : p W := k W h
def TickOut (w : World) (e : Ending) (w' : World) : Prop := ∃ g, e = .returned (.slice (some ⟨g, 0, none⟩) 1 1) ∧ w'.heap[g]? = some (.cells (lett 0 4 1 20).toArray 50 (0, 0)) ∧ w.heap.size ≤ g
set_option maxRecDepth 20000 in
set_option maxHeartbeats 8000000 in
theorem tick_first (q : Nat) (v : Value) (w : World) (h : Coll q v 0 [20] w) : Calls Try.prog 9 #[.pointer (some ⟨q, 0, none⟩), .int .u64 3] w fun e w' => (∃ g, e = .returned (.slice (some ⟨g, 0, none⟩) 1 1) ∧ w'.heap[g]? = some (.cells (lett 0 4 1 20).toArray 50 (0, 0))) ∧ ∀ (B : Nat) (w0 : World), B ≤ q → B ≤ w.heap.size → Below B w0 w → Below B w0 w' := by
  obtain ⟨a, c, rfl⟩ := owns_slice h.row
  obtain ⟨A2, c2', hr2, hn2, _⟩ := cut_high und_u64s size_u64s h.row 1 (Nat.le_refl 1)
  obtain ⟨g, rfl, cx⟩ := nums_cell h.row (j := 0) (by decide)
  replace hr2 : ∀ w', (Instr.slice 52 (.slice (some ⟨g, 0, none⟩) 1 c) (some (.int .i64 1)) none none).run Try.prog w' = .ok (.slice A2 0 c2') w' := hr2
  have kq := h.at'
  replace kq : w.heap[q]? = some (.cells (coll (.slice (some ⟨g, 0, none⟩) 1 c) none 0).toArray 56 (0, 0)) := kq
  replace cx : w.cell? ⟨g, 0, none⟩ = some (.int .u64 20) := cx
  have hgq : g ≠ q := by have := (h.row.lt g rfl).1; omega
  have hqs := lt_of_get kq
  clear h hn2
  obtain ⟨c8, c9, c10, f8, f9, f10⟩ := coll_cells kq
  go_enter Try.func9, Try.ntmps9
  go_upto_region 5 with (fail)
  refine name_wp (fun w1 => But q w w1 ∧ w1.heap[q]? = some (.cells (coll (.slice (some ⟨g, 0, none⟩) 1 c) none 1).toArray 56 (0, 0))) ⟨(But.refl q w).set _, (store1 (o := 10) (v := .int .u64 1) kq).trans rfl⟩ ?_
  clear kq c8 c9 c10 f8 f9 f10
  rintro w1 ⟨hbut, kq⟩
  replace cx : w1.cell? ⟨g, 0, none⟩ = some (.int .u64 20) := (World.cell?_of_block (w := w) (a := ⟨g, 0, none⟩) (hbut.block g (World.block_lt_of_cell? _ _ cx) hgq)).trans cx
  have hfin : Hid (∀ (w' : World), But q w1 w' → ∀ (B : Nat) (w0 : World), B ≤ q → B ≤ w.heap.size → Below B w0 w → Below B w0 w') := Lib.hid (fun w' h1 B w0 hB hBw hb0 => h1.below (hbut.below hb0 hB hBw) hB (Nat.le_trans hBw hbut.size))
  have hbn : But q w1 w1 := But.refl _ _
  have hs1 : w.heap.size ≤ w1.heap.size := hbut.size
  clear hbut
  refine segS_start (gb := fun _ => True) 15 (by kernel_rfl) (by decide) ?_
  intro v0 hv
  replace kq := keeps hv kq
  try replace kr := keeps hv kr
  replace hbn := hbn.next hv
  replace cx := (hv.cell (World.block_lt_of_cell? _ _ cx)).trans cx
  clear hv
  refine segS_batch 3 [0, 1, 3, 4, 5, 6, 7, 8, 9, 10, 11, 12] (by kernel_rfl) rfl (by kernel_rfl) (by kernel_rfl) (by kernel_rfl) ?_
  apply Exists.intro
  refine ⟨fun ι _ φ hφ => ?_, fun v4 hv => ?_⟩
  · have d8 := fun i => mid_familyC hφ (At0.of_block kq) trivial _ ⟨i, rfl⟩ 8 _ rfl
    have d10 := fun i => mid_familyC hφ (At0.of_block kq) trivial _ ⟨i, rfl⟩ 10 _ rfl
    have dx := fun i => mid_familyC (o := 0) (cs := [.int .u64 20]) hφ (fun j u hj => by
      obtain rfl : j = 0 := by have := (List.getElem?_eq_some_iff.1 hj).1; simpa using this
      cases hj
      exact cx) trivial _ ⟨i, rfl⟩ 0 _ rfl
    simp only [Nat.zero_add] at d8 d10 dx
    repeat (refine pick_step rfl ?_; go_big_quiet_step (fail))
    exact pick_end
  replace kq := keeps hv kq
  try replace kr := keeps hv kr
  replace hbn := hbn.next hv
  replace cx := (hv.cell (World.block_lt_of_cell? _ _ cx)).trans cx
  clear hv
  refine segS_one 2 _ (by decide) rfl (by kernel_rfl) ?_
  intro v2 K hv hK
  replace kq := keeps hv kq
  try replace kr := keeps hv kr
  replace hbn := hbn.next hv
  replace cx := (hv.cell (World.block_lt_of_cell? _ _ cx)).trans cx
  clear hv
  replace hK := Lib.hid hK
  go_simp
  refine (after_ok 3 0 _).mono ?_
  rintro e v3 ⟨rfl, hv⟩
  refine hK.out _ _ (HeldS.of_below hv) ?_
  clear hK K
  replace kq := keeps hv kq
  try replace kr := keeps hv kr
  replace hbn := hbn.next hv
  replace cx := (hv.cell (World.block_lt_of_cell? _ _ cx)).trans cx
  clear hv
  refine segS_batch 1 [13] (by kernel_rfl) rfl (by kernel_rfl) (by kernel_rfl) (by kernel_rfl) ?_
  apply Exists.intro
  refine ⟨fun ι _ φ hφ => ?_, fun v4 hv => ?_⟩
  · repeat (refine pick_step rfl ?_; go_big_quiet_step (fail))
    exact pick_end
  replace kq := keeps hv kq
  try replace kr := keeps hv kr
  replace hbn := hbn.next hv
  replace cx := (hv.cell (World.block_lt_of_cell? _ _ cx)).trans cx
  clear hv
  refine segS_one 14 _ (by decide) rfl (by kernel_rfl) ?_
  intro v5 K hv hK
  replace kq := keeps hv kq
  try replace kr := keeps hv kr
  replace hbn := hbn.next hv
  replace cx := (hv.cell (World.block_lt_of_cell? _ _ cx)).trans cx
  clear hv
  replace hK := Lib.hid hK
  go_simp
  have hv := (Below.refl v5.heap.size v5).alloc (Nat.le_refl _) (.cells (req 3 0 0 1 20).toArray 66 (0, 0))
  refine hK.out _ (v5.alloc (.cells (req 3 0 0 1 20).toArray 66 (0, 0))) (HeldS.of_below hv) ?_
  clear hK K
  have kr := alloc_at (w := v5) (k := v5.heap.size) (o := .cells (req 3 0 0 1 20).toArray 66 (0, 0)) rfl
  have hrs : w1.heap.size ≤ v5.heap.size := hbn.size
  have hqr : q < v5.heap.size := lt_of_get kq
  obtain ⟨r, hr⟩ : ∃ r, v5.heap.size = r := ⟨_, rfl⟩
  rw [hr] at kr hrs hqr ⊢
  replace kq := keeps hv kq
  replace hbn := hbn.next hv
  replace cx := (hv.cell (World.block_lt_of_cell? _ _ cx)).trans cx
  clear hv hr
  generalize v5.alloc (.cells (req 3 0 0 1 20).toArray 66 (0, 0)) = v6 at *
  refine segS_tail (by kernel_rfl) ?_
  intro v9 hv
  replace kq := keeps hv kq
  try replace kr := keeps hv kr
  replace hbn := hbn.next hv
  replace cx := (hv.cell (World.block_lt_of_cell? _ _ cx)).trans cx
  clear hv
  simp only [List.drop_succ_cons, List.drop_zero]
  obtain ⟨c8, c9, c10, f8, f9, f10⟩ := coll_cells kq
  go_wp2
  refine calm_normal ?_
  have hrq : r ≠ q := by omega
  refine name_any (p := fun w => Exit.then _ _ Exit.normal _ w) (fun wA => But q w1 wA ∧ wA.heap[q]? = some (.cells (coll (.slice (some ⟨g, 0, none⟩) 1 c) (some ⟨r, 0, none⟩) 1).toArray 56 (0, 0)) ∧ wA.heap[r]? = some (.cells (req 3 0 0 1 20).toArray 66 (0, 0))) ⟨hbn.set _, (store1 (o := 9) (v := .pointer (some ⟨r, 0, none⟩)) kq).trans rfl, store_far kr hrq⟩ ?_
  clear hbn kq kr c8 c9 c10 f8 f9 f10 cx
  rintro wA ⟨hbn, kq, kr⟩
  show Exit.then _ _ Exit.normal _ wA
  obtain ⟨c8, c9, c10, f8, f9, f10⟩ := coll_cells kq
  go_upto_region 7 with (fail)
  refine name_wp (fun wB => But q w1 wB ∧ wB.heap[q]? = some (.cells (coll (.slice A2 0 c2') (some ⟨r, 0, none⟩) 1).toArray 56 (0, 0)) ∧ wB.heap[r]? = some (.cells (req 3 0 0 1 20).toArray 66 (0, 0))) ⟨hbn.set _, (store1 (o := 8) (v := .slice A2 0 c2') kq).trans rfl, store_far kr hrq⟩ ?_
  clear hbn kq kr c8 c9 c10 f8 f9 f10 hr2
  rintro wB ⟨hbn, kq, kr⟩
  obtain ⟨c8, c9, c10, f8, f9, f10⟩ := coll_cells kq
  go_wp2_with fail
  refine call_then (due_now r 1 20 _ kr) ?_
  intro wC hv
  replace hbn := hbn.next hv
  replace kq := keeps hv kq
  replace kr := keeps hv kr
  clear hv c8 c9 c10 f8 f9 f10
  obtain ⟨c8, c9, c10, f8, f9, f10⟩ := coll_cells kq
  go_wp2_with fail
  refine (again_now r 1 20 _ kr).mono ?_
  rintro e wD ⟨rfl, hbr, kr2⟩
  have kq2 := (hbr.block q (lt_of_get kq) (Ne.symm hrq)).trans kq
  have hbn2 : But q w1 wD := ⟨hbr.os.trans hbn.os, hbr.tape.trans hbn.tape, hbr.output.trans hbn.output, Nat.le_trans hbn.size hbr.size, fun k hk hne => (hbr.block k (Nat.lt_of_lt_of_le hk hbn.size) (by omega)).trans (hbn.block k hk hne)⟩
  clear hbn hbr kq kr c8 c9 c10 f8 f9 f10
  obtain ⟨c8, c9, c10, f8, f9, f10⟩ := coll_cells kq2
  go_wp2_with fail
  refine call_then (letter_ok r 3 1 2 1 20 _ kr2) ?_
  intro wE hv
  replace hbn2 := hbn2.next hv
  clear hv c8 c9 c10 f8 f9 f10 kq2 kr2
  go_wp2
  rw [build_one _ _ (by rfl)]
  have hv := (Below.refl wE.heap.size wE).alloc (Nat.le_refl _) (.cells (lett 0 4 1 20).toArray 50 (0, 0))
  go_ret
  exact ⟨⟨wE.heap.size, rfl, alloc_at rfl⟩, hfin.out _ (hbn2.next hv)⟩
theorem lett_cells {g : Nat} {w : World} {t : TypeId} (h : w.heap[g]? = some (.cells (lett 0 4 1 20).toArray t (0, 0))) : w.cell? ⟨g, 0, none⟩ = some (.int .i64 0) ∧ w.cell? ⟨g, 1, none⟩ = some (.int .u8 4) ∧ w.cell? ⟨g, 3, none⟩ = some (.int .u64 20) := by
  have g := At0.of_block h
  have x0 := g 0 _ rfl
  have x1 := g 1 _ rfl
  have x3 := g 3 _ rfl
  simp only [Nat.zero_add, Nat.add_zero] at x0 x1 x3
  exact ⟨x0, x1, x3⟩
set_option maxRecDepth 20000 in
set_option maxHeartbeats 8000000 in
theorem collect_awake (w : World) : Calls Try.prog 4 #[] w fun e w' => e = .returned (.bool true) ∧ Below w.heap.size w w' := by
  have ht := Lib.hid (fun w => task_zero w)
  unfold small8 at ht
  go_enter Try.func4, Try.ntmps4
  go_wp2_with fail
  refine call_then (ht.out _) ?_
  intro w1 hb
  go_wp2_with fail
  refine (cnew_ok _).mono ?_
  rintro e w2 ⟨q, rfl, hv, hq, hc⟩
  have hqw : w.heap.size ≤ q := Nat.le_trans hb.size hq
  replace hb := below_next hb hb.size hv
  clear hv hq ht
  have hC : Coll q (.slice none 0 0) 0 [] w2 := ⟨hc, World.ownsRow_nil _ _ _ _⟩
  have hwn := want_new q (.slice none 0 0) [] 0 rfl (by decide) 20 (fun j hj => absurd hj (Nat.not_lt_zero _)) (by decide) w2 hC
  replace hwn := Lib.hid hwn
  clear hc hC
  go_wp2_with fail
  refine hwn.out.mono ?_
  rintro e w3 ⟨v3, rfl, hC, hbe⟩
  have hb3 := hbe _ _ hqw hb.size hb
  clear hbe hb hwn
  go_wp2_with fail
  refine (tick_first q v3 w3 hC).mono ?_
  rintro e w4 ⟨⟨g, rfl, hg⟩, hbe⟩
  have hb4 := hbe _ _ hqw hb3.size hb3
  obtain ⟨x0, x1, x3⟩ := lett_cells hg
  clear hbe hb3 hC hg
  go_wp2
  go_ret
  exact ⟨rfl, hb4⟩
theorem range_get {n j : Nat} (h : j < n) : (List.range n).getD j 0 = j := by
  rw [List.getD_eq_getElem?_getD, List.getElem?_range h]
  rfl
theorem leftU {n L : Nat} (h : n < L) : L - (intOf (.int .u64 ((n : Int) + 1))).toNat < L - (intOf (.int .u64 (n : Int))).toNat := by
  show L - ((n : Int) + 1).toNat < L - ((n : Int)).toNat
  omega
set_option maxRecDepth 20000 in
set_option maxHeartbeats 8000000 in
theorem many_walk (n far : Int) (hn0 : 0 ≤ n) (hn1 : n < 256) (hf : 0 ≤ far) (w : World) : Calls Try.prog 3 #[.int .u8 n, .int .u64 far] w fun e w' => e = .returned (.bool true) ∧ Below w.heap.size w w' := by
  have ht := Lib.hid (fun w => task_zero w)
  unfold small8 at ht
  obtain ⟨k, hk⟩ : ∃ k : Nat, n % 40 = (k : Int) := ⟨(n % 40).toNat, by omega⟩
  have hk1 : n.tmod 40 = (k : Int) := by rw [← hk]; exact Int.tmod_eq_emod_of_nonneg hn0
  have hk40 : k < 40 := by omega
  have hk2 : IntKind.u64.wrap (k : Int) = (k : Int) := by rw [IntKind.wrap_u64]; omega
  have hk3 : IntKind.u8.wrap (k : Int) = (k : Int) := by rw [IntKind.wrap_u8]; omega
  have hk4 : IntKind.i64.wrap (k : Int) = (k : Int) := by rw [IntKind.wrap_i64]; omega
  obtain ⟨fm, hfm⟩ : ∃ fm, far % 1000 = fm := ⟨_, rfl⟩
  have hfm1 : far.tmod 1000 = fm := by rw [← hfm]; exact Int.tmod_eq_emod_of_nonneg hf
  have hfm2 : 0 ≤ fm ∧ fm < 1000 := by omega
  have hfm3 : IntKind.u64.wrap fm = fm := by rw [IntKind.wrap_u64]; omega
  have hfm4 : IntKind.u64.wrap (1099511627777 + fm) = 1099511627777 + fm := by rw [IntKind.wrap_u64]; omega
  have hfar := Lib.hid (fun q w => want_far q (1099511627777 + fm) (by omega) w)
  go_enter Try.func3, Try.ntmps3
  go_wp2_with fail
  refine call_then (collect_awake _) ?_
  intro w0 hb
  go_wp2_with fail
  refine call_then (ht.out _) ?_
  intro w1 hv
  replace hb := below_next hb hb.size hv
  clear hv
  go_wp2_with fail
  refine (cnew_ok _).mono ?_
  rintro e w2 ⟨q, rfl, hv, hq, hc⟩
  have hqw : w.heap.size ≤ q := Nat.le_trans hb.size hq
  replace hb := below_next hb hb.size hv
  clear hv hq ht
  have hC : Coll q (.slice none 0 0) 0 [] w2 := ⟨hc, World.ownsRow_nil _ _ _ _⟩
  clear hc
  replace hqw := Lib.hid hqw
  go_wp2
  go_loopw [23] (fun i wr => ∃ (j : Nat) (l : List Nat) (v : Value), j ≤ k ∧ i = .int .u64 (j : Int) ∧ Hid (l = List.range (min j 32)) ∧ Coll q v 0 l wr ∧ Below w.heap.size w wr) (fun i _ => k - (intOf i).toNat)
  case atStart => exact ⟨0, [], .slice none 0 0, Nat.zero_le _, rfl, Lib.hid rfl, hC, hb⟩
  case round =>
    clear hb hC
    obtain ⟨j, l, v, hj, rfl, hl, hC, hb⟩ := hrel
    by_cases hjk : j < k
    · have e1 : (j : Int) < (k : Int) := by omega
      have e0 : (0 : Int) ≤ (j : Int) := by omega
      by_cases h32 : j < 32
      · have e2 : (j : Int) < 32 := by omega
        have e3 : ¬ (32 : Int) ≤ (j : Int) := by omega
        have hl2 : l = List.range j := by rw [hl.out, Nat.min_eq_left (by omega)]
        have hwn := Lib.hid (want_new q v l j (by rw [hl2, List.length_range]) h32 j (fun i hi => by rw [hl2, range_get hi]; omega) (by omega) wr hC)
        replace hl2 := Lib.hid hl2
        go_wp2_with fail
        refine hwn.out.mono ?_
        rintro e w3 ⟨v3, rfl, hC3, hbe⟩
        have hb3 := hbe _ _ hqw.out hb.size hb
        clear hbe hb hwn hC
        have hl3 : Hid (l ++ [j] = List.range (min (j + 1) 32)) := Lib.hid (by rw [hl2.out, Nat.min_eq_left (by omega), List.range_succ])
        go_wp2
        exact ⟨⟨j + 1, l ++ [j], v3, by omega, by go_num, hl3, hC3, hb3⟩, leftU (by assumption)⟩
      · have e2 : ¬ (j : Int) < 32 := by omega
        have e3 : (32 : Int) ≤ (j : Int) := by omega
        have hl2 : l = List.range 32 := by rw [hl.out, Nat.min_eq_right (by omega)]
        have hwn := Lib.hid (want_full q v l 32 (by rw [hl2, List.length_range]) (by decide) (by decide) j (fun i hi => by rw [hl2, range_get hi]; omega) (by omega) wr hC)
        replace hl2 := Lib.hid hl2
        go_wp2_with fail
        refine call_then hwn.out ?_
        intro w3 hv
        replace hC := hC.up hv
        replace hb := below_next hb hb.size hv
        clear hv hwn
        have hl3 : Hid (l = List.range (min (j + 1) 32)) := Lib.hid (by rw [hl2.out, Nat.min_eq_right (by omega)])
        go_wp2
        exact ⟨⟨j + 1, l, v, by omega, by go_num, hl3, hC, hb⟩, leftU (by assumption)⟩
    · obtain rfl : j = k := by omega
      have e1 : ¬ (j : Int) < (j : Int) := by omega
      obtain ⟨m, hm⟩ : ∃ m, min j 32 = m := ⟨_, rfl⟩
      have hlm : l.length = m := by rw [hl.out, List.length_range, hm]
      have hbz := Lib.hid (busy_ok q v l m hlm wr hC)
      replace hlm := Lib.hid hlm
      replace hl := Lib.hid hl
      by_cases h32 : j ≤ 32
      · obtain rfl : j = m := by rw [← hm]; exact (Nat.min_eq_left h32).symm
        clear hm
        have e4 : (j : Int) ≤ 32 := by omega
        go_wp2_with fail
        refine call_then hbz.out ?_
        intro w3 hv
        replace hb := below_next hb hb.size hv
        clear hv hbz
        go_wp2_with fail
        refine call_then (hfar.out _ _) ?_
        intro w4 hv
        replace hb := below_next hb hb.size hv
        clear hv
        go_wp2
        go_ret
        exact ⟨rfl, hb⟩
      · obtain rfl : 32 = m := by rw [← hm]; exact (Nat.min_eq_right (by omega)).symm
        clear hm
        have e4 : ¬ (j : Int) ≤ 32 := by omega
        have e5 : (32 : Int) < (j : Int) := by omega
        go_wp2_with fail
        refine call_then hbz.out ?_
        intro w3 hv
        replace hb := below_next hb hb.size hv
        clear hv hbz
        go_wp2_with fail
        refine call_then (hfar.out _ _) ?_
        intro w4 hv
        replace hb := below_next hb hb.size hv
        clear hv
        go_wp2
        go_ret
        exact ⟨rfl, hb⟩
end Go.Proofs.Ytnfikpkbneachaa
