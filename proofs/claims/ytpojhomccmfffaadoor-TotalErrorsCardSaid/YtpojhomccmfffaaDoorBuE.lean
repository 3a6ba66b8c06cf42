/-
  Windows: a first report added.
-/
import Derived.Test.YtpojhomccmfffaaDoorBuD
namespace Go.Proofs.YtpojhomccmfffaaDoor
open Go.RowKit Flow F
set_option linter.unusedVariables false
set_option linter.unusedSimpArgs false

theorem at0_setCells {w : World} {g : Nat} {cur : Array Value} {t : TypeId} {cs : List Value} (h : w.heap[g]? = some (.cells cur t (0, 0))) (hl : cs.length ≤ cur.size) : At0 (w.setCells g 0 cs) g cs := fun j v hj => by
  have hk := heap_setCells cs 0 g w cur t (0, 0) h
  obtain ⟨hs, hg⟩ := build_get cs 0 cur
  have hjl : j < cs.length := (List.getElem?_eq_some_iff.1 hj).1
  have := hg j (by omega)
  rw [if_pos ⟨Nat.zero_le _, by simpa using hjl⟩, Nat.sub_zero, hj] at this
  rw [Nat.zero_add]
  simp only [World.cell?, hk]
  exact this
set_option maxRecDepth 20000 in
set_option maxHeartbeats 8000000 in
theorem badd_first (q : Nat) (x : Ci) (p : Int) (s : ByteArray) (h : TGood x p s) (W mn mx now : Int) (ns : List Nat) (hns : IdOK ns) (ys : List Int) (B : Option Addr) (n cB : Nat) (hn : x.outN = n) (hy : ElemsOK ys) (hyl : ys.length = n) (w0 : 0 ≤ W) (w1 : W < 18446744073709551616) (n0 : 0 ≤ now) (n1 : now ≤ 1099511627776) (hmx : 0 < mx) (w : World) (hT : Tabs w) (hY : ElemsAt w B ys) (hq : w.heap[q]? = some (.cells (book x p s W mn mx (.slice none 0 0)).toArray 143 (0, 0))) :
    Calls Tryd.prog 39 #[.pointer (some ⟨q, 0, none⟩), .int .u64 now, .agg (idc ns).toArray, .slice B n cB] w fun e w' => ∃ g g2 cap, e = .returned (.int .i64 0) ∧ But q w w' ∧ w.heap.size ≤ g ∧ w.heap.size ≤ g2 ∧ w'.heap[q]? = some (.cells (book x p s W mn mx (.slice (some ⟨g, 0, none⟩) 1 cap)).toArray 143 (0, 0)) ∧
      At0 w' g (bks (startF W now) (.slice (some ⟨g2, 0, none⟩) n n) 1 (chk ns) false) ∧ Row w' g2 (List.zipWith (add x.f) (List.replicate n 0) ys) := by
  have hFt := Lib.hid (fun w h' => fits_nil q x p s h W mn mx now n hn w0 w1 n0 n1 hmx w h')
  have hWn := Lib.hid (fun w hq => window_nil q x p s h W mn mx now n hn w0 w1 n0 (by omega) w hq)
  have hF := Lib.hid (fun w h => bfind_nil q x p s W mn mx (startF W now) w h)
  have hrz : ElemsOK (List.replicate n 0) := fun x hx => by obtain rfl := List.eq_of_mem_replicate hx; omega
  have hrl : (List.replicate n (0 : Int)).length = n := by simp
  have hA := fun (w : World) g1 (hT : Tabs w) (hr : Row w g1 (List.replicate n 0)) hy2 => (tadd_ok x p s h (List.replicate n 0) ys (some ⟨g1, 0, none⟩) B n n n cB 0 (fun _ => 0) ns hns (by decide) hn.symm rfl hrz hy hrl hyl zero_lim (chk_lim _) w hT hr.elems hy2 : Calls Tryd.prog 25 #[.agg (tot (.slice (some ⟨g1, 0, none⟩) n n) 0 (fun _ => 0)).toArray, .agg (tcl x p s).toArray, .agg (idc ns).toArray, .slice B n cB] w _)
  have hil := Lib.hid (idc_len hns)
  rw [xor_zero] at hA
  unfold totv at hA
  simp only [Int.zero_add] at hA
  generalize List.zipWith (add x.f) (List.replicate n 0) ys = zs at *
  generalize chk ns = H at *
  generalize startF W now = st at *
  replace hA := Lib.hid hA
  replace hT := Lib.hid hT
  replace hY := Lib.hid hY
  have hql := lt_of_get hq
  clear h hns hy hyl w0 w1 n0 n1 hmx hrz hrl hn
  go_enter Tryd.func39, Tryd.ntmps39
  go_upto_region 1 with (fail)
  refine name_wp (fun w1 => Below w.heap.size w w1 ∧ w1.heap[q]? = some (.cells (book x p s W mn mx (.slice none 0 0)).toArray 143 (0, 0)) ∧ w1.heap[w.heap.size]? = some (.cells (idc ns).toArray 51 (0, 0)))
    ⟨(Below.refl _ _).alloc (Nat.le_refl _) _, alloc_keeps hq, alloc_at rfl⟩ ?_
  clear hq
  rintro w1 ⟨hb, hq, ki⟩
  go_wp2_with fail
  refine call_then (hFt.out _ hq) ?_
  intro w2 hv
  replace hq := keeps hv hq
  replace ki := keeps hv ki
  replace hb := below_next hb hb.size hv
  clear hv hFt
  go_wp2_with fail
  refine (hWn.out _ hq).mono ?_
  rintro e w3 ⟨g1, rfl, hv, hg, hrow⟩
  have hgi := Nat.lt_of_lt_of_le (lt_of_get ki) hg
  replace hq := keeps hv hq
  replace ki := keeps hv ki
  replace hb := below_next hb hb.size hv
  clear hv hWn hg
  have hone := Lib.hid (one_bks (A := some ⟨g1, 0, none⟩) (n := n) (cp := n) st 0 (fun _ => 0) false)
  go_upto_region 5 with (first
    | (refine list_store_whole _ _ _ _ (bks st (.slice (some ⟨g1, 0, none⟩) n n) 0 (fun _ => 0) false) noBk 95 rfl rfl rfl rfl (alloc_at rfl) rfl (by kernel_rfl) hone.out ?_; intro w7 hbut ko))
  have hbA := hb.alloc hb.size (.cells noBk.toArray 95 (0, 0))
  have hzz := hb.size
  have hlq := lt_of_get hq
  have hli := lt_of_get ki
  have hlr := lt_of_get hrow
  replace hq : w7.heap[q]? = some (.cells (book x p s W mn mx (.slice none 0 0)).toArray 143 (0, 0)) := (hbut.block _ (by simp; omega) (by omega)).trans (alloc_keeps hq)
  replace ki : w7.heap[w.heap.size]? = some (.cells (idc ns).toArray 51 (0, 0)) := (hbut.block _ (by simp; omega) (by omega)).trans (alloc_keeps ki)
  replace hrow : Row w7 g1 (List.replicate n 0) := (hbut.block _ (by simp; omega) (by omega)).trans (alloc_keeps hrow)
  replace hb := hbut.below hbA hb.size hbA.size
  have hgo : g1 < w3.heap.size := hlr
  have hio : w.heap.size < w3.heap.size := hli
  have hqo : q < w3.heap.size := hlq
  clear hbut hbA hone hlq hli hlr hzz
  generalize w3.heap.size = o at *
  rw [put_noneT]
  refine segS_start (gb := fun k => k ≤ o) 15 (by kernel_rfl) (by decide) ?_
  intro v0 hv
  replace hq := keeps hv hq
  replace ki := keeps hv ki
  replace ko := keeps hv ko
  replace hb := below_next hb (by have := hb.size; omega) hv
  try (replace hrow := hrow.up hv)
  try (replace hr2 := hr2.up hv)
  try (replace k7 := keeps hv k7)
  clear hv
  refine segS_batch 7 [0, 1, 2, 3, 4, 5, 6, 7] (by kernel_rfl) rfl (by kernel_rfl) (by kernel_rfl) (by kernel_rfl) ?_
  obtain ⟨ht, -, -, -, -⟩ := book_cells hq
  apply Exists.intro
  refine ⟨fun ι _ φ hφ => ?_, fun v1 hv => ?_⟩
  · repeat (refine pick_step rfl ?_; first
      | (refine quiet_load_mid _ _ _ 1 _ _ rfl rfl rfl (mid_familyT hφ (sub_range (At0.of_block ko) 1 _ (bks_tot _ _ _ _ _)) (Nat.le_refl _)) Tryd.underlying39 rfl (by rw [tot_len]; kernel_rfl) ?_; simp only [Act.put, List.setIfInBounds_toArray, List.set_cons_succ, List.set_cons_zero])
      | (refine quiet_load_mid _ _ _ 0 _ _ rfl rfl rfl (mid_familyT hφ ht (Nat.le_of_lt hqo)) Tryd.underlying33 rfl (by kernel_rfl) ?_; simp only [Act.put, List.setIfInBounds_toArray, List.set_cons_succ, List.set_cons_zero])
      | (refine quiet_load_mid _ _ _ 0 _ _ rfl rfl rfl (mid_familyT hφ (At0.of_block ki) (Nat.le_of_lt hio)) Tryd.underlying51 rfl (by rw [hil.out]; kernel_rfl) ?_; simp only [Act.put, List.setIfInBounds_toArray, List.set_cons_succ, List.set_cons_zero])
      | go_big_quiet_step (fail))
    exact pick_end
  clear ht
  replace hq := keeps hv hq
  replace ki := keeps hv ki
  replace ko := keeps hv ko
  replace hb := below_next hb (by have := hb.size; omega) hv
  try (replace hrow := hrow.up hv)
  try (replace hr2 := hr2.up hv)
  try (replace k7 := keeps hv k7)
  clear hv
  refine segS_more [8, 12] (by kernel_rfl) (by decide) ?_
  intro j hj
  simp only [List.mem_cons, List.not_mem_nil, or_false] at hj
  rcases hj with rfl | rfl
  · refine ⟨by decide, _, rfl, ?_⟩
    intro v9 K2 hv hK
    replace hq := keeps hv hq
    replace ki := keeps hv ki
    replace ko := keeps hv ko
    replace hb := below_next hb (by have := hb.size; omega) hv
    try (replace hrow := hrow.up hv)
    try (replace hr2 := hr2.up hv)
    try (replace k7 := keeps hv k7)
    clear hv
    have hA2 := Lib.hid (hA.out v9 g1 (hT.out.up hb) hrow (hY.out.up hb))
    replace hK := Lib.hid hK
    go_simp
    refine hA2.out.mono ?_
    rintro e vb ⟨g2, rfl, hv, hg2, hr2⟩
    refine hK.out _ _ (HeldS.of_below hv) ?_
    have hgw2 : w.heap.size ≤ g2 := by have := hb.size; omega
    have hgo2 := Nat.lt_of_lt_of_le (lt_of_get ko) hg2
    try (have h72 := Nat.lt_of_lt_of_le (lt_of_get k7) hg2)
    clear hK hA2 K2 hg2
    replace hq := keeps hv hq
    replace ki := keeps hv ki
    replace ko := keeps hv ko
    replace hb := below_next hb (by have := hb.size; omega) hv
    try (replace hrow := hrow.up hv)
    try (replace hr2 := hr2.up hv)
    try (replace k7 := keeps hv k7)
    clear hv
    clear hrow
    refine segS_batch 3 [9, 10, 11] (by kernel_rfl) rfl (by kernel_rfl) (by kernel_rfl) (by kernel_rfl) ?_
    apply Exists.intro
    refine ⟨fun ι _ φ hφ => ?_, fun v4 hv => ?_⟩
    · iterate 3 (refine pick_step rfl ?_; go_big_quiet_step (fail))
      exact pick_end
    replace hq := keeps hv hq
    replace ki := keeps hv ki
    replace ko := keeps hv ko
    replace hb := below_next hb (by have := hb.size; omega) hv
    try (replace hrow := hrow.up hv)
    try (replace hr2 := hr2.up hv)
    try (replace k7 := keeps hv k7)
    clear hv
    refine segS_one 12 _ (by decide) rfl (by kernel_rfl) ?_
    intro v7 K2 hv hK
    replace hq := keeps hv hq
    replace ki := keeps hv ki
    replace ko := keeps hv ko
    replace hb := below_next hb (by have := hb.size; omega) hv
    try (replace hrow := hrow.up hv)
    try (replace hr2 := hr2.up hv)
    try (replace k7 := keeps hv k7)
    clear hv
    replace hK := Lib.hid hK
    go_simp
    have hv := (Below.refl v7.heap.size v7).alloc (Nat.le_refl _) (.cells #[.slice none 0 0, .int .i64 0, .int .u8 0, .int .u8 0, .int .u8 0, .int .u8 0, .int .u8 0, .int .u8 0, .int .u8 0, .int .u8 0, .int .u8 0, .int .u8 0, .int .u8 0, .int .u8 0, .int .u8 0, .int .u8 0, .int .u8 0, .int .u8 0] 39 (0, 0))
    refine hK.out _ _ (HeldS.of_below hv) ?_
    clear hK K2
    have k7 : (v7.alloc (.cells #[.slice none 0 0, .int .i64 0, .int .u8 0, .int .u8 0, .int .u8 0, .int .u8 0, .int .u8 0, .int .u8 0, .int .u8 0, .int .u8 0, .int .u8 0, .int .u8 0, .int .u8 0, .int .u8 0, .int .u8 0, .int .u8 0, .int .u8 0, .int .u8 0] 39 (0, 0))).heap[v7.heap.size]? = some (.cells #[.slice none 0 0, .int .i64 0, .int .u8 0, .int .u8 0, .int .u8 0, .int .u8 0, .int .u8 0, .int .u8 0, .int .u8 0, .int .u8 0, .int .u8 0, .int .u8 0, .int .u8 0, .int .u8 0, .int .u8 0, .int .u8 0, .int .u8 0, .int .u8 0] 39 (0, 0)) := alloc_at rfl
    have hq7 : w.heap.size ≤ v7.heap.size := hb.size
    have hqq : o < v7.heap.size := lt_of_get ko
    try (have h72 : g2 < v7.heap.size := lt_of_get hr2)
    replace hq := keeps hv hq
    replace ki := keeps hv ki
    replace ko := keeps hv ko
    replace hb := below_next hb hb.size hv
    try (replace hrow := hrow.up hv)
    try (replace hr2 := hr2.up hv)
    clear hv
    generalize v7.alloc (.cells #[.slice none 0 0, .int .i64 0, .int .u8 0, .int .u8 0, .int .u8 0, .int .u8 0, .int .u8 0, .int .u8 0, .int .u8 0, .int .u8 0, .int .u8 0, .int .u8 0, .int .u8 0, .int .u8 0, .int .u8 0, .int .u8 0, .int .u8 0, .int .u8 0] 39 (0, 0)) = v8 at *
    generalize v7.heap.size = q7 at *
    refine segS_one 13 _ (by decide) rfl (by kernel_rfl) ?_
    intro vc K2 hv hK
    replace hq := keeps hv hq
    replace ki := keeps hv ki
    replace ko := keeps hv ko
    replace hb := below_next hb (by have := hb.size; omega) hv
    try (replace hrow := hrow.up hv)
    try (replace hr2 := hr2.up hv)
    try (replace k7 := keeps hv k7)
    clear hv
    replace hK := Lib.hid hK
    obtain ⟨I, hI2⟩ : ∃ I, tot (.slice (some ⟨g2, 0, none⟩) n n) 1 H = I := ⟨_, rfl⟩
    have hIl : I.length = 18 := by rw [← hI2]; exact tot_len _ _ _
    have hone : ∀ u ∈ I, u.oneCell' = true := by rw [← hI2]; exact one_tot _ _
    have hbut : But q7 vc (vc.setCells q7 0 I) := (But.refl q7 vc).setCells I 0 vc
    have k8 : (vc.setCells q7 0 I).heap[q7]? = some (.cells I.toArray 39 (0, 0)) := by
      rw [heap_setCells _ _ _ _ _ _ _ k7, build_one _ _ (by rw [hIl]; rfl)]
    rw [if_pos (by kernel_rfl)]
    refine wp_store_mid 39 _ _ rfl q7 0 I.toArray rfl (by rw [← hI2]; rfl) (fun j hj => ?_) (by simp only [List.size_toArray, hIl]; exact info_total) (by simpa using hone) (hK.out _ _ ⟨hbut.os, hbut.tape, hbut.output, hbut.size, fun b hb hne => hbut.block b hb (by have : b ≤ o := hne; omega)⟩ ?_)
    · have hj' : j < 18 := by rw [← hIl]; simpa using hj
      simp [World.cell?, World.frozen?, k7]
      exact hj'
    replace hr2 : Row (vc.setCells q7 0 I) g2 zs := (hbut.block _ (lt_of_get hr2) (by omega)).trans hr2
    replace hq := (hbut.block _ (lt_of_get hq) (by omega)).trans hq
    replace ki := (hbut.block _ (lt_of_get ki) (by omega)).trans ki
    replace ko := (hbut.block _ (lt_of_get ko) (by omega)).trans ko
    replace hb := hbut.below hb hq7 hb.size
    clear hK K2 hbut k7
    generalize vc.setCells q7 0 I = vd at *
    rw [put_noneT]
    refine segS_batch 0 [14] (by kernel_rfl) rfl (by kernel_rfl) (by kernel_rfl) (by kernel_rfl) ?_
    apply Exists.intro
    refine ⟨fun ι _ φ hφ => ?_, fun v4 hv => ?_⟩
    · repeat (refine pick_step rfl ?_; go_big_quiet_step (fail))
      exact pick_end
    replace k8 := keeps hv k8
    replace hq := keeps hv hq
    replace ki := keeps hv ki
    replace ko := keeps hv ko
    replace hb := below_next hb (by have := hb.size; omega) hv
    try (replace hrow := hrow.up hv)
    try (replace hr2 := hr2.up hv)
    try (replace k7 := keeps hv k7)
    clear hv
    refine segS_done rfl (by kernel_rfl) ?_
    intro v5 hv
    replace k8 := keeps hv k8
    replace hq := keeps hv hq
    replace ki := keeps hv ki
    replace ko := keeps hv ko
    replace hb := below_next hb (by have := hb.size; omega) hv
    try (replace hrow := hrow.up hv)
    try (replace hr2 := hr2.up hv)
    try (replace k7 := keeps hv k7)
    clear hv
    subst hI2
    have hone := Lib.hid (one_tot (A := some ⟨g2, 0, none⟩) (n := n) (cp := n) 1 H)
    go_upto_region 9 with (first
      | (refine list_load_mid _ _ _ 0 _ _ rfl rfl rfl (At0.of_block k8) Tryd.underlying39 rfl (by rw [tot_len]; kernel_rfl) ?_)
      | (refine list_store_mid _ _ _ o 1 (tot (.slice (some ⟨g2, 0, none⟩) n n) 1 H) (bks st (.slice (some ⟨g1, 0, none⟩) n n) 0 (fun _ => 0) false) (bks st (.slice (some ⟨g2, 0, none⟩) n n) 1 H false) 95 rfl rfl rfl rfl ko (by rw [tot_len, bks_len]; decide) (by rw [tot_len]; kernel_rfl) hone.out (set_tot _ _ _ _ _ _ _ _) ?_; intro w9 hbut kp))
    replace hr2 : Row w9 g2 zs := (hbut.block _ (lt_of_get hr2) (by omega)).trans hr2
    replace hq := (hbut.block _ (lt_of_get hq) (by omega)).trans hq
    replace hb := hbut.below hb (by omega) hb.size
    clear hbut k8 ko hone ki
    have a0 := At0.of_block kp 0 (.int .u64 st) rfl
    simp only [Nat.zero_add] at a0
    obtain ⟨cs, hcs⟩ : ∃ cs, bks st (.slice (some ⟨g2, 0, none⟩) n n) 1 H false = cs := ⟨_, rfl⟩
    have hcl : cs.length = 20 := by rw [← hcs]; exact bks_len _ _ _ _ _
    have honc : ∀ u ∈ cs, u.oneCell' = true := by rw [← hcs]; exact one_bks _ _ _ _
    rw [hcs] at kp
    try rw [hcs]
    replace hcs := Lib.hid hcs
    replace hcl := Lib.hid hcl
    replace honc := Lib.hid honc
    go_wp2_with fail
    refine call_then (hF.out _ hq) ?_
    intro wa hv
    replace hq := keeps hv hq
    replace kp := keeps hv kp
    replace hr2 := hr2.up hv
    replace hb := below_next hb hb.size hv
    clear hv a0
    obtain ⟨-, -, c11, -, fr⟩ := book_cells hq
    clear fr
    go_wp2
    refine segS_start (gb := fun _ => True) 11 (by kernel_rfl) (by decide) ?_
    intro v0 hv
    replace hq := keeps hv hq
    replace kp := keeps hv kp
    replace hr2 := hr2.up hv
    replace hb := below_next hb (by have := hb.size; omega) hv
    try (replace hcur := keeps hv hcur)
    clear hv
    have c11 := (book_cells hq).2.2.1
    refine segS_batch 4 [0, 1, 2, 3, 4, 5, 6] (by kernel_rfl) rfl (by kernel_rfl) (by kernel_rfl) (by kernel_rfl) ?_
    apply Exists.intro
    refine ⟨fun ι _ φ hφ => ?_, fun v1 hv => ?_⟩
    · have d11 := fun i => (World.cell?_of_block ((hφ.old i).block _ (World.block_lt_of_cell? _ _ c11) trivial)).trans c11
      repeat (refine pick_step rfl ?_; first
        | (refine quiet_load_mid _ _ _ 0 _ _ rfl rfl rfl (mid_familyT hφ (At0.of_block kp) trivial) Tryd.underlying95 rfl (by rw [hcl.out]; kernel_rfl) ?_; simp only [Act.put, List.setIfInBounds_toArray, List.set_cons_succ, List.set_cons_zero])
        | go_big_quiet_step (fail))
      exact pick_end
    clear c11
    replace hq := keeps hv hq
    replace kp := keeps hv kp
    replace hr2 := hr2.up hv
    replace hb := below_next hb (by have := hb.size; omega) hv
    try (replace hcur := keeps hv hcur)
    clear hv
    refine segS_one 7 _ (by decide) rfl (by kernel_rfl) ?_
    intro v2 K2 hv hK
    replace hq := keeps hv hq
    replace kp := keeps hv kp
    replace hr2 := hr2.up hv
    replace hb := below_next hb (by have := hb.size; omega) hv
    try (replace hcur := keeps hv hcur)
    clear hv
    replace hK := Lib.hid hK
    have hclo := hcl.out
    go_simp
    rw [build_one _ _ (by rw [hcl.out]; rfl)]
    clear hclo
    have hv := (Below.refl v2.heap.size v2).alloc (Nat.le_refl _) (.cells cs.toArray 95 (0, 0))
    refine hK.out _ _ (HeldS.of_below hv) ?_
    clear hK K2
    have kh := alloc_at (w := v2) (k := v2.heap.size) (o := .cells cs.toArray 95 (0, 0)) rfl
    replace hq := keeps hv hq
    replace kp := keeps hv kp
    replace hr2 := hr2.up hv
    replace hb := below_next hb (by have := hb.size; omega) hv
    try (replace hcur := keeps hv hcur)
    clear hv
    generalize v2.alloc (.cells cs.toArray 95 (0, 0)) = v3 at *
    generalize v2.heap.size = qh at *
    refine segS_one 8 _ (by decide) rfl (by kernel_rfl) ?_
    intro v4 K2 hv hK
    replace kh := keeps hv kh
    replace hq := keeps hv hq
    replace kp := keeps hv kp
    replace hr2 := hr2.up hv
    replace hb := below_next hb (by have := hb.size; omega) hv
    try (replace hcur := keeps hv hcur)
    clear hv
    replace hK := Lib.hid hK
    have hI := Lib.hid (binsert_nil qh cs hcl.out honc.out v4 (At0.of_block kh))
    go_simp
    refine hI.out.mono ?_
    rintro e v5 ⟨g, cap, cur, rfl, hv, hg, hcur, hat, hsz⟩
    refine hK.out _ _ (HeldS.of_below hv) ?_
    have hgq := Nat.lt_of_lt_of_le (lt_of_get hq) hg
    have hgp := Nat.lt_of_lt_of_le (lt_of_get kp) hg
    have hgr := Nat.lt_of_lt_of_le (lt_of_get hr2) hg
    have hgw : w.heap.size ≤ g := by have := hb.size; omega
    clear hK K2 hI kh
    replace hq := keeps hv hq
    replace kp := keeps hv kp
    replace hr2 := hr2.up hv
    replace hb := below_next hb (by have := hb.size; omega) hv
    try (replace hcur := keeps hv hcur)
    clear hv
    refine segS_batch 0 [9, 10] (by kernel_rfl) rfl (by kernel_rfl) (by kernel_rfl) (by kernel_rfl) ?_
    apply Exists.intro
    refine ⟨fun ι _ φ hφ => ?_, fun v1 hv => ?_⟩
    · repeat (refine pick_step rfl ?_; go_big_quiet_step (fail))
      exact pick_end
    replace hq := keeps hv hq
    replace kp := keeps hv kp
    replace hr2 := hr2.up hv
    replace hb := below_next hb (by have := hb.size; omega) hv
    try (replace hcur := keeps hv hcur)
    clear hv
    refine segS_tail (by kernel_rfl) ?_
    intro v9 hv
    replace hq := keeps hv hq
    replace kp := keeps hv kp
    replace hr2 := hr2.up hv
    replace hb := below_next hb (by have := hb.size; omega) hv
    try (replace hcur := keeps hv hcur)
    clear hv
    simp only [List.drop_succ_cons, List.drop_zero]
    have fr := (book_cells hq).2.2.2.2
    have c11 := (book_cells hq).2.2.1
    go_wp2
    refine calm_normal ?_
    clear fr c11
    have hB := (But.of_below hb (p := q)).set (o := 11) (.slice (some ⟨g, 0, none⟩) 1 cap)
    have hq2 : (v9.setCell ⟨q, 11, none⟩ (.slice (some ⟨g, 0, none⟩) 1 cap)).heap[q]? = some (.cells (book x p s W mn mx (.slice (some ⟨g, 0, none⟩) 1 cap)).toArray 143 (0, 0)) := (store1 hq (o := 11)).trans rfl
    have kp2 : (v9.setCell ⟨q, 11, none⟩ (.slice (some ⟨g, 0, none⟩) 1 cap)).heap[o]? = some (.cells cs.toArray 95 (0, 0)) := store_far kp (show o ≠ q by omega)
    have hr3 : Row (v9.setCell ⟨q, 11, none⟩ (.slice (some ⟨g, 0, none⟩) 1 cap)) g2 zs := store_far hr2 (show g2 ≠ q by omega)
    have hcur2 : (v9.setCell ⟨q, 11, none⟩ (.slice (some ⟨g, 0, none⟩) 1 cap)).heap[g]? = some (.cells cur 95 (0, 0)) := store_far hcur (show g ≠ q by omega)
    clear hq kp hr2 hcur hb
    generalize v9.setCell ⟨q, 11, none⟩ (.slice (some ⟨g, 0, none⟩) 1 cap) = va at *
    have c11 := (book_cells hq2).2.2.1
    go_wp2
    refine wp_region_flow1 7 (by kernel_rfl) (by kernel_rfl) (by kernel_rfl) ?_
    apply Exists.intro
    refine ⟨fun ι _ φ hφ => ?_, fun w6 hv => ?_⟩
    · have d11 := fun i => hφ.cell c11 i
      simp only [List.take_succ_cons, List.take_zero]
      repeat (first
        | (refine quiet_load_mid _ _ _ 0 _ _ rfl rfl rfl (mid_family hφ (At0.of_block kp2)) Tryd.underlying95 rfl (by rw [hcl.out]; kernel_rfl) ?_; simp only [Act.put, List.setIfInBounds_toArray, List.set_cons_succ, List.set_cons_zero])
        | go_big_quiet_step (fail))
      exact wpQuiet_nil rfl
    clear c11
    have hB6 := hB.next hv
    replace hq2 := keeps hv hq2
    replace hr3 := hr3.up hv
    replace hcur2 := keeps hv hcur2
    clear hv kp2 hB
    simp only [List.drop_succ_cons, List.drop_zero]
    refine wpList_store_mid rfl 95 _ _ rfl g 0 cs.toArray rfl rfl (fun j hj => ?_) (by simp only [List.size_toArray, hcl.out]; exact info_bucket) (by simpa using honc.out) ?_
    · have h1 := hcl.out
      have h2 : j < cs.length := by simpa using hj
      have hj' : j < cur.size := by omega
      simp [World.cell?, World.frozen?, hcur2, hj']
    have hat2 := at0_setCells hcur2 (cs := cs) (by rw [hcl.out]; exact hsz)
    have hbut : But g w6 (w6.setCells g 0 cs) := (But.refl g w6).setCells cs 0 w6
    replace hq2 := (hbut.block _ (lt_of_get hq2) (by omega)).trans hq2
    replace hr3 : Row (w6.setCells g 0 cs) g2 zs := (hbut.block _ (lt_of_get hr3) (by omega)).trans hr3
    have hBz : But q w (w6.setCells g 0 cs) := ⟨hbut.os.trans hB6.os, hbut.tape.trans hB6.tape, hbut.output.trans hB6.output, Nat.le_trans hB6.size hbut.size, fun k hk hne => (hbut.block k (Nat.lt_of_lt_of_le hk hB6.size) (by omega)).trans (hB6.block k hk hne)⟩
    clear hcur2 hbut hB6
    generalize w6.setCells g 0 cs = wz at *
    rw [← hcs.out] at hat2
    go_wp2
    go_ret
    exact ⟨g, g2, cap, rfl, hBz, hgw, hgw2, hq2, hat2, hr3⟩
  · refine ⟨by decide, _, rfl, ?_⟩
    intro v7 K2 hv hK
    replace hq := keeps hv hq
    replace ki := keeps hv ki
    replace ko := keeps hv ko
    replace hb := below_next hb (by have := hb.size; omega) hv
    try (replace hrow := hrow.up hv)
    try (replace hr2 := hr2.up hv)
    try (replace k7 := keeps hv k7)
    clear hv
    replace hK := Lib.hid hK
    go_simp
    have hv := (Below.refl v7.heap.size v7).alloc (Nat.le_refl _) (.cells #[.slice none 0 0, .int .i64 0, .int .u8 0, .int .u8 0, .int .u8 0, .int .u8 0, .int .u8 0, .int .u8 0, .int .u8 0, .int .u8 0, .int .u8 0, .int .u8 0, .int .u8 0, .int .u8 0, .int .u8 0, .int .u8 0, .int .u8 0, .int .u8 0] 39 (0, 0))
    refine hK.out _ _ (HeldS.of_below hv) ?_
    clear hK K2
    have k7 : (v7.alloc (.cells #[.slice none 0 0, .int .i64 0, .int .u8 0, .int .u8 0, .int .u8 0, .int .u8 0, .int .u8 0, .int .u8 0, .int .u8 0, .int .u8 0, .int .u8 0, .int .u8 0, .int .u8 0, .int .u8 0, .int .u8 0, .int .u8 0, .int .u8 0, .int .u8 0] 39 (0, 0))).heap[v7.heap.size]? = some (.cells #[.slice none 0 0, .int .i64 0, .int .u8 0, .int .u8 0, .int .u8 0, .int .u8 0, .int .u8 0, .int .u8 0, .int .u8 0, .int .u8 0, .int .u8 0, .int .u8 0, .int .u8 0, .int .u8 0, .int .u8 0, .int .u8 0, .int .u8 0, .int .u8 0] 39 (0, 0)) := alloc_at rfl
    have hq7 : w.heap.size ≤ v7.heap.size := hb.size
    have hqq : o < v7.heap.size := lt_of_get ko
    try (have h72 : g2 < v7.heap.size := lt_of_get hr2)
    replace hq := keeps hv hq
    replace ki := keeps hv ki
    replace ko := keeps hv ko
    replace hb := below_next hb hb.size hv
    try (replace hrow := hrow.up hv)
    try (replace hr2 := hr2.up hv)
    clear hv
    generalize v7.alloc (.cells #[.slice none 0 0, .int .i64 0, .int .u8 0, .int .u8 0, .int .u8 0, .int .u8 0, .int .u8 0, .int .u8 0, .int .u8 0, .int .u8 0, .int .u8 0, .int .u8 0, .int .u8 0, .int .u8 0, .int .u8 0, .int .u8 0, .int .u8 0, .int .u8 0] 39 (0, 0)) = v8 at *
    generalize v7.heap.size = q7 at *
    refine segS_one 8 _ (by decide) rfl (by kernel_rfl) ?_
    intro v9 K2 hv hK
    replace hq := keeps hv hq
    replace ki := keeps hv ki
    replace ko := keeps hv ko
    replace hb := below_next hb (by have := hb.size; omega) hv
    try (replace hrow := hrow.up hv)
    try (replace hr2 := hr2.up hv)
    try (replace k7 := keeps hv k7)
    clear hv
    have hA2 := Lib.hid (hA.out v9 g1 (hT.out.up hb) hrow (hY.out.up hb))
    replace hK := Lib.hid hK
    go_simp
    refine hA2.out.mono ?_
    rintro e vb ⟨g2, rfl, hv, hg2, hr2⟩
    refine hK.out _ _ (HeldS.of_below hv) ?_
    have hgw2 : w.heap.size ≤ g2 := by have := hb.size; omega
    have hgo2 := Nat.lt_of_lt_of_le (lt_of_get ko) hg2
    try (have h72 := Nat.lt_of_lt_of_le (lt_of_get k7) hg2)
    clear hK hA2 K2 hg2
    replace hq := keeps hv hq
    replace ki := keeps hv ki
    replace ko := keeps hv ko
    replace hb := below_next hb (by have := hb.size; omega) hv
    try (replace hrow := hrow.up hv)
    try (replace hr2 := hr2.up hv)
    try (replace k7 := keeps hv k7)
    clear hv
    clear hrow
    refine segS_batch 2 [9, 10, 11] (by kernel_rfl) rfl (by kernel_rfl) (by kernel_rfl) (by kernel_rfl) ?_
    apply Exists.intro
    refine ⟨fun ι _ φ hφ => ?_, fun v4 hv => ?_⟩
    · iterate 3 (refine pick_step rfl ?_; go_big_quiet_step (fail))
      exact pick_end
    replace hq := keeps hv hq
    replace ki := keeps hv ki
    replace ko := keeps hv ko
    replace hb := below_next hb (by have := hb.size; omega) hv
    try (replace hrow := hrow.up hv)
    try (replace hr2 := hr2.up hv)
    try (replace k7 := keeps hv k7)
    clear hv
    refine segS_one 13 _ (by decide) rfl (by kernel_rfl) ?_
    intro vc K2 hv hK
    replace hq := keeps hv hq
    replace ki := keeps hv ki
    replace ko := keeps hv ko
    replace hb := below_next hb (by have := hb.size; omega) hv
    try (replace hrow := hrow.up hv)
    try (replace hr2 := hr2.up hv)
    try (replace k7 := keeps hv k7)
    clear hv
    replace hK := Lib.hid hK
    obtain ⟨I, hI2⟩ : ∃ I, tot (.slice (some ⟨g2, 0, none⟩) n n) 1 H = I := ⟨_, rfl⟩
    have hIl : I.length = 18 := by rw [← hI2]; exact tot_len _ _ _
    have hone : ∀ u ∈ I, u.oneCell' = true := by rw [← hI2]; exact one_tot _ _
    have hbut : But q7 vc (vc.setCells q7 0 I) := (But.refl q7 vc).setCells I 0 vc
    have k8 : (vc.setCells q7 0 I).heap[q7]? = some (.cells I.toArray 39 (0, 0)) := by
      rw [heap_setCells _ _ _ _ _ _ _ k7, build_one _ _ (by rw [hIl]; rfl)]
    rw [if_pos (by kernel_rfl)]
    refine wp_store_mid 39 _ _ rfl q7 0 I.toArray rfl (by rw [← hI2]; rfl) (fun j hj => ?_) (by simp only [List.size_toArray, hIl]; exact info_total) (by simpa using hone) (hK.out _ _ ⟨hbut.os, hbut.tape, hbut.output, hbut.size, fun b hb hne => hbut.block b hb (by have : b ≤ o := hne; omega)⟩ ?_)
    · have hj' : j < 18 := by rw [← hIl]; simpa using hj
      simp [World.cell?, World.frozen?, k7]
      exact hj'
    replace hr2 : Row (vc.setCells q7 0 I) g2 zs := (hbut.block _ (lt_of_get hr2) (by omega)).trans hr2
    replace hq := (hbut.block _ (lt_of_get hq) (by omega)).trans hq
    replace ki := (hbut.block _ (lt_of_get ki) (by omega)).trans ki
    replace ko := (hbut.block _ (lt_of_get ko) (by omega)).trans ko
    replace hb := hbut.below hb hq7 hb.size
    clear hK K2 hbut k7
    generalize vc.setCells q7 0 I = vd at *
    rw [put_noneT]
    refine segS_batch 0 [14] (by kernel_rfl) rfl (by kernel_rfl) (by kernel_rfl) (by kernel_rfl) ?_
    apply Exists.intro
    refine ⟨fun ι _ φ hφ => ?_, fun v4 hv => ?_⟩
    · repeat (refine pick_step rfl ?_; go_big_quiet_step (fail))
      exact pick_end
    replace k8 := keeps hv k8
    replace hq := keeps hv hq
    replace ki := keeps hv ki
    replace ko := keeps hv ko
    replace hb := below_next hb (by have := hb.size; omega) hv
    try (replace hrow := hrow.up hv)
    try (replace hr2 := hr2.up hv)
    try (replace k7 := keeps hv k7)
    clear hv
    refine segS_done rfl (by kernel_rfl) ?_
    intro v5 hv
    replace k8 := keeps hv k8
    replace hq := keeps hv hq
    replace ki := keeps hv ki
    replace ko := keeps hv ko
    replace hb := below_next hb (by have := hb.size; omega) hv
    try (replace hrow := hrow.up hv)
    try (replace hr2 := hr2.up hv)
    try (replace k7 := keeps hv k7)
    clear hv
    subst hI2
    have hone := Lib.hid (one_tot (A := some ⟨g2, 0, none⟩) (n := n) (cp := n) 1 H)
    go_upto_region 9 with (first
      | (refine list_load_mid _ _ _ 0 _ _ rfl rfl rfl (At0.of_block k8) Tryd.underlying39 rfl (by rw [tot_len]; kernel_rfl) ?_)
      | (refine list_store_mid _ _ _ o 1 (tot (.slice (some ⟨g2, 0, none⟩) n n) 1 H) (bks st (.slice (some ⟨g1, 0, none⟩) n n) 0 (fun _ => 0) false) (bks st (.slice (some ⟨g2, 0, none⟩) n n) 1 H false) 95 rfl rfl rfl rfl ko (by rw [tot_len, bks_len]; decide) (by rw [tot_len]; kernel_rfl) hone.out (set_tot _ _ _ _ _ _ _ _) ?_; intro w9 hbut kp))
    replace hr2 : Row w9 g2 zs := (hbut.block _ (lt_of_get hr2) (by omega)).trans hr2
    replace hq := (hbut.block _ (lt_of_get hq) (by omega)).trans hq
    replace hb := hbut.below hb (by omega) hb.size
    clear hbut k8 ko hone ki
    have a0 := At0.of_block kp 0 (.int .u64 st) rfl
    simp only [Nat.zero_add] at a0
    obtain ⟨cs, hcs⟩ : ∃ cs, bks st (.slice (some ⟨g2, 0, none⟩) n n) 1 H false = cs := ⟨_, rfl⟩
    have hcl : cs.length = 20 := by rw [← hcs]; exact bks_len _ _ _ _ _
    have honc : ∀ u ∈ cs, u.oneCell' = true := by rw [← hcs]; exact one_bks _ _ _ _
    rw [hcs] at kp
    try rw [hcs]
    replace hcs := Lib.hid hcs
    replace hcl := Lib.hid hcl
    replace honc := Lib.hid honc
    go_wp2_with fail
    refine call_then (hF.out _ hq) ?_
    intro wa hv
    replace hq := keeps hv hq
    replace kp := keeps hv kp
    replace hr2 := hr2.up hv
    replace hb := below_next hb hb.size hv
    clear hv a0
    obtain ⟨-, -, c11, -, fr⟩ := book_cells hq
    clear fr
    go_wp2
    refine segS_start (gb := fun _ => True) 11 (by kernel_rfl) (by decide) ?_
    intro v0 hv
    replace hq := keeps hv hq
    replace kp := keeps hv kp
    replace hr2 := hr2.up hv
    replace hb := below_next hb (by have := hb.size; omega) hv
    try (replace hcur := keeps hv hcur)
    clear hv
    have c11 := (book_cells hq).2.2.1
    refine segS_batch 4 [0, 1, 2, 3, 4, 5, 6] (by kernel_rfl) rfl (by kernel_rfl) (by kernel_rfl) (by kernel_rfl) ?_
    apply Exists.intro
    refine ⟨fun ι _ φ hφ => ?_, fun v1 hv => ?_⟩
    · have d11 := fun i => (World.cell?_of_block ((hφ.old i).block _ (World.block_lt_of_cell? _ _ c11) trivial)).trans c11
      repeat (refine pick_step rfl ?_; first
        | (refine quiet_load_mid _ _ _ 0 _ _ rfl rfl rfl (mid_familyT hφ (At0.of_block kp) trivial) Tryd.underlying95 rfl (by rw [hcl.out]; kernel_rfl) ?_; simp only [Act.put, List.setIfInBounds_toArray, List.set_cons_succ, List.set_cons_zero])
        | go_big_quiet_step (fail))
      exact pick_end
    clear c11
    replace hq := keeps hv hq
    replace kp := keeps hv kp
    replace hr2 := hr2.up hv
    replace hb := below_next hb (by have := hb.size; omega) hv
    try (replace hcur := keeps hv hcur)
    clear hv
    refine segS_one 7 _ (by decide) rfl (by kernel_rfl) ?_
    intro v2 K2 hv hK
    replace hq := keeps hv hq
    replace kp := keeps hv kp
    replace hr2 := hr2.up hv
    replace hb := below_next hb (by have := hb.size; omega) hv
    try (replace hcur := keeps hv hcur)
    clear hv
    replace hK := Lib.hid hK
    have hclo := hcl.out
    go_simp
    rw [build_one _ _ (by rw [hcl.out]; rfl)]
    clear hclo
    have hv := (Below.refl v2.heap.size v2).alloc (Nat.le_refl _) (.cells cs.toArray 95 (0, 0))
    refine hK.out _ _ (HeldS.of_below hv) ?_
    clear hK K2
    have kh := alloc_at (w := v2) (k := v2.heap.size) (o := .cells cs.toArray 95 (0, 0)) rfl
    replace hq := keeps hv hq
    replace kp := keeps hv kp
    replace hr2 := hr2.up hv
    replace hb := below_next hb (by have := hb.size; omega) hv
    try (replace hcur := keeps hv hcur)
    clear hv
    generalize v2.alloc (.cells cs.toArray 95 (0, 0)) = v3 at *
    generalize v2.heap.size = qh at *
    refine segS_one 8 _ (by decide) rfl (by kernel_rfl) ?_
    intro v4 K2 hv hK
    replace kh := keeps hv kh
    replace hq := keeps hv hq
    replace kp := keeps hv kp
    replace hr2 := hr2.up hv
    replace hb := below_next hb (by have := hb.size; omega) hv
    try (replace hcur := keeps hv hcur)
    clear hv
    replace hK := Lib.hid hK
    have hI := Lib.hid (binsert_nil qh cs hcl.out honc.out v4 (At0.of_block kh))
    go_simp
    refine hI.out.mono ?_
    rintro e v5 ⟨g, cap, cur, rfl, hv, hg, hcur, hat, hsz⟩
    refine hK.out _ _ (HeldS.of_below hv) ?_
    have hgq := Nat.lt_of_lt_of_le (lt_of_get hq) hg
    have hgp := Nat.lt_of_lt_of_le (lt_of_get kp) hg
    have hgr := Nat.lt_of_lt_of_le (lt_of_get hr2) hg
    have hgw : w.heap.size ≤ g := by have := hb.size; omega
    clear hK K2 hI kh
    replace hq := keeps hv hq
    replace kp := keeps hv kp
    replace hr2 := hr2.up hv
    replace hb := below_next hb (by have := hb.size; omega) hv
    try (replace hcur := keeps hv hcur)
    clear hv
    refine segS_batch 0 [9, 10] (by kernel_rfl) rfl (by kernel_rfl) (by kernel_rfl) (by kernel_rfl) ?_
    apply Exists.intro
    refine ⟨fun ι _ φ hφ => ?_, fun v1 hv => ?_⟩
    · repeat (refine pick_step rfl ?_; go_big_quiet_step (fail))
      exact pick_end
    replace hq := keeps hv hq
    replace kp := keeps hv kp
    replace hr2 := hr2.up hv
    replace hb := below_next hb (by have := hb.size; omega) hv
    try (replace hcur := keeps hv hcur)
    clear hv
    refine segS_tail (by kernel_rfl) ?_
    intro v9 hv
    replace hq := keeps hv hq
    replace kp := keeps hv kp
    replace hr2 := hr2.up hv
    replace hb := below_next hb (by have := hb.size; omega) hv
    try (replace hcur := keeps hv hcur)
    clear hv
    simp only [List.drop_succ_cons, List.drop_zero]
    have fr := (book_cells hq).2.2.2.2
    have c11 := (book_cells hq).2.2.1
    go_wp2
    refine calm_normal ?_
    clear fr c11
    have hB := (But.of_below hb (p := q)).set (o := 11) (.slice (some ⟨g, 0, none⟩) 1 cap)
    have hq2 : (v9.setCell ⟨q, 11, none⟩ (.slice (some ⟨g, 0, none⟩) 1 cap)).heap[q]? = some (.cells (book x p s W mn mx (.slice (some ⟨g, 0, none⟩) 1 cap)).toArray 143 (0, 0)) := (store1 hq (o := 11)).trans rfl
    have kp2 : (v9.setCell ⟨q, 11, none⟩ (.slice (some ⟨g, 0, none⟩) 1 cap)).heap[o]? = some (.cells cs.toArray 95 (0, 0)) := store_far kp (show o ≠ q by omega)
    have hr3 : Row (v9.setCell ⟨q, 11, none⟩ (.slice (some ⟨g, 0, none⟩) 1 cap)) g2 zs := store_far hr2 (show g2 ≠ q by omega)
    have hcur2 : (v9.setCell ⟨q, 11, none⟩ (.slice (some ⟨g, 0, none⟩) 1 cap)).heap[g]? = some (.cells cur 95 (0, 0)) := store_far hcur (show g ≠ q by omega)
    clear hq kp hr2 hcur hb
    generalize v9.setCell ⟨q, 11, none⟩ (.slice (some ⟨g, 0, none⟩) 1 cap) = va at *
    have c11 := (book_cells hq2).2.2.1
    go_wp2
    refine wp_region_flow1 7 (by kernel_rfl) (by kernel_rfl) (by kernel_rfl) ?_
    apply Exists.intro
    refine ⟨fun ι _ φ hφ => ?_, fun w6 hv => ?_⟩
    · have d11 := fun i => hφ.cell c11 i
      simp only [List.take_succ_cons, List.take_zero]
      repeat (first
        | (refine quiet_load_mid _ _ _ 0 _ _ rfl rfl rfl (mid_family hφ (At0.of_block kp2)) Tryd.underlying95 rfl (by rw [hcl.out]; kernel_rfl) ?_; simp only [Act.put, List.setIfInBounds_toArray, List.set_cons_succ, List.set_cons_zero])
        | go_big_quiet_step (fail))
      exact wpQuiet_nil rfl
    clear c11
    have hB6 := hB.next hv
    replace hq2 := keeps hv hq2
    replace hr3 := hr3.up hv
    replace hcur2 := keeps hv hcur2
    clear hv kp2 hB
    simp only [List.drop_succ_cons, List.drop_zero]
    refine wpList_store_mid rfl 95 _ _ rfl g 0 cs.toArray rfl rfl (fun j hj => ?_) (by simp only [List.size_toArray, hcl.out]; exact info_bucket) (by simpa using honc.out) ?_
    · have h1 := hcl.out
      have h2 : j < cs.length := by simpa using hj
      have hj' : j < cur.size := by omega
      simp [World.cell?, World.frozen?, hcur2, hj']
    have hat2 := at0_setCells hcur2 (cs := cs) (by rw [hcl.out]; exact hsz)
    have hbut : But g w6 (w6.setCells g 0 cs) := (But.refl g w6).setCells cs 0 w6
    replace hq2 := (hbut.block _ (lt_of_get hq2) (by omega)).trans hq2
    replace hr3 : Row (w6.setCells g 0 cs) g2 zs := (hbut.block _ (lt_of_get hr3) (by omega)).trans hr3
    have hBz : But q w (w6.setCells g 0 cs) := ⟨hbut.os.trans hB6.os, hbut.tape.trans hB6.tape, hbut.output.trans hB6.output, Nat.le_trans hB6.size hbut.size, fun k hk hne => (hbut.block k (Nat.lt_of_lt_of_le hk hB6.size) (by omega)).trans (hB6.block k hk hne)⟩
    clear hcur2 hbut hB6
    generalize w6.setCells g 0 cs = wz at *
    rw [← hcs.out] at hat2
    go_wp2
    go_ret
    exact ⟨g, g2, cap, rfl, hBz, hgw, hgw2, hq2, hat2, hr3⟩
end Go.Proofs.YtpojhomccmfffaaDoor
