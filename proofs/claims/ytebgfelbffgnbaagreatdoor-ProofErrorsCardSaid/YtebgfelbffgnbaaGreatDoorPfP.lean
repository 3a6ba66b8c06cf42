/-
  A proof isn't made of another number of seeds, of another vector.
-/
import Derived.Test.YtebgfelbffgnbaaGreatDoorPfO
import Derived.Test.YtebgfelbffgnbaaGreatDoorBQ
import Derived.Deep.DeepCutAuto
import Derived.Deep.CutBlock
namespace Go.Proofs.YtebgfelbffgnbaaGreatDoor
open Go.RowKit Flow F
set_option linter.unusedVariables false
set_option linter.unusedSimpArgs false
attribute [local go_sem] eql_elem
set_option maxRecDepth 20000 in
set_option maxHeartbeats 16000000 in
theorem prove_seeds (x : Ci) (h : x.Good) (A C : Value) (Bs : Option Addr) (n cs : Nat) (hn : n ≠ x.arityN) (w : World) :
    Calls Tryz.prog 18 #[cvl x, A, .slice Bs n cs, C] w fun e w' => e = .returned (.tuple #[.slice none 0 0, .int .i64 9]) ∧ Below w.heap.size w w' := by
  have hCk := Lib.hid (fun w => check_good h w)
  have hG := Lib.hid (fun w => gadget_new x h w)
  have hAr := Lib.hid (fun v (w : World) (hv : GadIs x v w) => garity_any x h hv)
  have h1 : ((n : Int) != (x.arityN : Int)) = true := by simp; omega
  unfold GadNew at hG
  unfold cvl at *
  clear hn h
  go_enter Tryz.func18, Tryz.ntmps18
  go_upto_region 1 with (fail)
  refine name_wp (fun w1 => Below w.heap.size w w1 ∧ w1.heap[w.heap.size]? = some (cobj x)) ⟨(Below.refl _ _).alloc (Nat.le_refl _) _, alloc_at rfl⟩ ?_
  rintro w1 ⟨hb, kc⟩
  obtain ⟨c0, c1, c2, c3, c4, c5⟩ := blk6z kc
  go_wp2_with fail
  refine call_then (hCk.out _) ?_
  intro w2 hv
  replace hb := below_next hb hb.size hv
  replace kc := keeps hv kc
  clear hv c0 c1 c2 c3 c4 c5
  go_upto_region 4 with (fail)
  go_cut [11, 12] (fun p q w' => ∃ b11 b12 ga gA gn gc gm, p = .pointer (some ⟨b11, 0, none⟩) ∧ q = .pointer (some ⟨b12, 0, none⟩) ∧ Reg4 x w b11 b12 ga gA gn gc gm w')
  case first =>
    refine segS_start (gb := fun _ => True) 6 (by kernel_rfl) (by decide) ?_
    intro v0 hv
    replace hb := below_next hb hb.size hv
    replace kc := keeps hv kc
    clear hv
    refine segS_batch 3 [0, 1, 2] (by kernel_rfl) rfl (by kernel_rfl) (by kernel_rfl) (by kernel_rfl) ?_
    apply Exists.intro
    refine ⟨fun ι _ φ hφ => ?_, fun v1 hv => ?_⟩
    · have qd := fun i => blk6z ((hφ.old i).keeps kc trivial)
      have q0 := fun i => (qd i).1
      have q1 := fun i => (qd i).2.1
      have q2 := fun i => (qd i).2.2.1
      have q3 := fun i => (qd i).2.2.2.1
      have q4 := fun i => (qd i).2.2.2.2.1
      have q5 := fun i => (qd i).2.2.2.2.2
      clear qd
      repeat (refine pick_step rfl ?_; go_big_quiet_step (fail))
      exact pick_end
    replace hb := below_next hb hb.size hv
    replace kc := keeps hv kc
    clear hv
    refine segS_more [3, 4, 5] (by kernel_rfl) (by decide) ?_
    intro y hy
    simp only [List.mem_cons, List.not_mem_nil, or_false] at hy
    rcases hy with rfl | rfl | rfl
    · refine ⟨by decide, _, rfl, fun v2 K hv hK => ?_⟩
      replace hb := below_next hb hb.size hv
      replace kc := keeps hv kc
      clear hv
      replace hK := Lib.hid hK
      go_simp
      refine (hG.out v2).mono ?_
      rintro e v2' ⟨ga, gA, gn, gc, gm, rfl, hv, hgd, hgr⟩
      have hgr : ∀ b o, gA = some ⟨b, o, none⟩ → w.heap.size ≤ b := fun b o e => Nat.le_trans hb.size (hgr b o e)
      refine hK.out _ _ (HeldS.of_below hv) ?_
      clear hK K
      replace hb := below_next hb hb.size hv
      replace kc := keeps hv kc
      clear hv
      refine segS_more [4, 5] (by kernel_rfl) (by decide) ?_
      intro y hy
      simp only [List.mem_cons, List.not_mem_nil, or_false] at hy
      rcases hy with rfl | rfl
      · refine ⟨by decide, _, rfl, fun v3 K hv hK => ?_⟩
        replace hb := below_next hb hb.size hv
        replace kc := keeps hv kc
        replace hgd := hgd.up hv
        clear hv
        replace hK := Lib.hid hK
        go_simp
        refine hK.out _ _ (HeldS.of_below ((Below.refl _ _).alloc (Nat.le_refl _) _)) ?_
        clear hK K
        have hv : Below v3.heap.size v3 (v3.alloc (.cells #[.int .u8 0] 31 (0, 0))) := (Below.refl _ _).alloc (Nat.le_refl _) _
        have k11 : (v3.alloc (.cells #[.int .u8 0] 31 (0, 0))).heap[v3.heap.size]? = some (.cells #[.int .u8 0] 31 (0, 0)) := alloc_at rfl
        have l11 := hb.size
        replace hb := below_next hb hb.size hv
        replace kc := keeps hv kc
        replace hgd := hgd.up hv
        clear hv
        generalize (v3.alloc (.cells #[.int .u8 0] 31 (0, 0))) = v3' at *
        generalize v3.heap.size = b11 at *
        refine segS_more [5] (by kernel_rfl) (by decide) ?_
        intro y hy
        obtain rfl := List.mem_singleton.1 hy
        refine ⟨by decide, _, rfl, fun v4 K hv hK => ?_⟩
        replace hb := below_next hb hb.size hv
        replace kc := keeps hv kc
        replace k11 := keeps hv k11
        replace hgd := hgd.up hv
        clear hv
        replace hK := Lib.hid hK
        go_simp
        refine hK.out _ _ (HeldS.of_below ((Below.refl _ _).alloc (Nat.le_refl _) _)) ?_
        clear hK K
        have hv : Below v4.heap.size v4 (v4.alloc (.cells #[.int .u8 0, .slice none 0 0, .int .i64 0] 43 (0, 0))) := (Below.refl _ _).alloc (Nat.le_refl _) _
        have k12 : (v4.alloc (.cells #[.int .u8 0, .slice none 0 0, .int .i64 0] 43 (0, 0))).heap[v4.heap.size]? = some (.cells #[.int .u8 0, .slice none 0 0, .int .i64 0] 43 (0, 0)) := alloc_at rfl
        have l12 := hb.size
        replace hb := below_next hb hb.size hv
        replace kc := keeps hv kc
        replace k11 := keeps hv k11
        replace hgd := hgd.up hv
        clear hv
        generalize (v4.alloc (.cells #[.int .u8 0, .slice none 0 0, .int .i64 0] 43 (0, 0))) = v4' at *
        generalize v4.heap.size = b12 at *
        refine segS_tail (by kernel_rfl) ?_
        intro v9 hv
        replace hb := below_next hb hb.size hv
        replace kc := keeps hv kc
        replace k11 := keeps hv k11
        replace k12 := keeps hv k12
        replace hgd := hgd.up hv
        clear hv
        simp only [List.drop_succ_cons, List.drop_zero]
        have hk1 : v9.cell? ⟨b11, 0, none⟩ = some (.int .u8 0) ∧ v9.frozen? ⟨b11, 0, none⟩ = false := by simp [World.cell?, World.frozen?, k11]
        obtain ⟨t0, t1⟩ := hk1
        have n12 : b12 ≠ b11 := cells_ne k12 k11 (by decide)
        obtain ⟨d0, d1, d2, f0, f1, f2⟩ := blk3 k12
        have ncq : w.heap.size ≠ b11 := cells_ne (show v9.heap[w.heap.size]? = some (.cells (ccells x).toArray 33 (0, 0)) from kc) k11 (by decide)
        have ncr : w.heap.size ≠ b12 := cells_ne (show v9.heap[w.heap.size]? = some (.cells (ccells x).toArray 33 (0, 0)) from kc) k12 (by decide)
        have k11' : (v9.setCell ⟨b11, 0, none⟩ (.int .u8 x.f)).heap[b11]? = some (.cells #[.int .u8 x.f] 31 (0, 0)) := (store1 k11 (o := 0) (v := .int .u8 x.f)).trans rfl
        have k12' : (v9.setCell ⟨b11, 0, none⟩ (.int .u8 x.f)).heap[b12]? = some (.cells #[.int .u8 0, .slice none 0 0, .int .i64 0] 43 (0, 0)) := store_far k12 n12
        have e12 := (store1 (store1 (store1 k12' (o := 0) (v := .int .u8 ga)) (o := 1) (v := .slice gA gn gc)) (o := 2) (v := .int .i64 gm)).trans rfl
        have e11 : ((((v9.setCell ⟨b11, 0, none⟩ (.int .u8 x.f)).setCell ⟨b12, 0, none⟩ (.int .u8 ga)).setCell ⟨b12, 1, none⟩ (.slice gA gn gc)).setCell ⟨b12, 2, none⟩ (.int .i64 gm)).heap[b11]? = some (.cells #[.int .u8 x.f] 31 (0, 0)) := store_far (store_far (store_far k11' n12.symm) n12.symm) n12.symm
        have ec : ((((v9.setCell ⟨b11, 0, none⟩ (.int .u8 x.f)).setCell ⟨b12, 0, none⟩ (.int .u8 ga)).setCell ⟨b12, 1, none⟩ (.slice gA gn gc)).setCell ⟨b12, 2, none⟩ (.int .i64 gm)).heap[w.heap.size]? = some (cobj x) := store_far (store_far (store_far (store_far kc ncq) ncr) ncr) ncr
        have eb := (((hb.setCell (p := ⟨b11, 0, none⟩) l11 (.int .u8 x.f)).setCell (p := ⟨b12, 0, none⟩) l12 (.int .u8 ga)).setCell (p := ⟨b12, 1, none⟩) l12 (.slice gA gn gc)).setCell (p := ⟨b12, 2, none⟩) l12 (.int .i64 gm)
        have eg : GadIs x (.agg #[.int .u8 ga, .slice gA gn gc, .int .i64 gm]) ((((v9.setCell ⟨b11, 0, none⟩ (.int .u8 x.f)).setCell ⟨b12, 0, none⟩ (.int .u8 ga)).setCell ⟨b12, 1, none⟩ (.slice gA gn gc)).setCell ⟨b12, 2, none⟩ (.int .i64 gm)) := hgd.same (fun b o e => by
          have hr := hgd.row e
          have q1 : b ≠ b11 := cells_ne hr k11 (by decide)
          have q2 : b ≠ b12 := cells_ne hr k12 (by decide)
          exact (store_far (store_far (store_far (store_far hr q1) q2) q2) q2).trans hr.symm)
        have hres : Reg4 x w b11 b12 ga gA gn gc gm ((((v9.setCell ⟨b11, 0, none⟩ (.int .u8 x.f)).setCell ⟨b12, 0, none⟩ (.int .u8 ga)).setCell ⟨b12, 1, none⟩ (.slice gA gn gc)).setCell ⟨b12, 2, none⟩ (.int .i64 gm)) := ⟨eb, ec, e11, e12, eg, l11, l12, hgr⟩
        replace hres := Lib.hid hres
        have n12s := n12.symm
        clear eb ec e11 e12 eg k11' k12' k11 k12 kc hb hgd ncq ncr
        go_wp2
        refine calm_normal ?_
        go_wp2
        go_meet
        exact ⟨b11, b12, ga, gA, gn, gc, gm, rfl, rfl, hres.out⟩
      · refine ⟨by decide, _, rfl, fun v3 K hv hK => ?_⟩
        replace hb := below_next hb hb.size hv
        replace kc := keeps hv kc
        replace hgd := hgd.up hv
        clear hv
        replace hK := Lib.hid hK
        go_simp
        refine hK.out _ _ (HeldS.of_below ((Below.refl _ _).alloc (Nat.le_refl _) _)) ?_
        clear hK K
        have hv : Below v3.heap.size v3 (v3.alloc (.cells #[.int .u8 0, .slice none 0 0, .int .i64 0] 43 (0, 0))) := (Below.refl _ _).alloc (Nat.le_refl _) _
        have k12 : (v3.alloc (.cells #[.int .u8 0, .slice none 0 0, .int .i64 0] 43 (0, 0))).heap[v3.heap.size]? = some (.cells #[.int .u8 0, .slice none 0 0, .int .i64 0] 43 (0, 0)) := alloc_at rfl
        have l12 := hb.size
        replace hb := below_next hb hb.size hv
        replace kc := keeps hv kc
        replace hgd := hgd.up hv
        clear hv
        generalize (v3.alloc (.cells #[.int .u8 0, .slice none 0 0, .int .i64 0] 43 (0, 0))) = v3' at *
        generalize v3.heap.size = b12 at *
        refine segS_more [4] (by kernel_rfl) (by decide) ?_
        intro y hy
        obtain rfl := List.mem_singleton.1 hy
        refine ⟨by decide, _, rfl, fun v4 K hv hK => ?_⟩
        replace hb := below_next hb hb.size hv
        replace kc := keeps hv kc
        replace k12 := keeps hv k12
        replace hgd := hgd.up hv
        clear hv
        replace hK := Lib.hid hK
        go_simp
        refine hK.out _ _ (HeldS.of_below ((Below.refl _ _).alloc (Nat.le_refl _) _)) ?_
        clear hK K
        have hv : Below v4.heap.size v4 (v4.alloc (.cells #[.int .u8 0] 31 (0, 0))) := (Below.refl _ _).alloc (Nat.le_refl _) _
        have k11 : (v4.alloc (.cells #[.int .u8 0] 31 (0, 0))).heap[v4.heap.size]? = some (.cells #[.int .u8 0] 31 (0, 0)) := alloc_at rfl
        have l11 := hb.size
        replace hb := below_next hb hb.size hv
        replace kc := keeps hv kc
        replace k12 := keeps hv k12
        replace hgd := hgd.up hv
        clear hv
        generalize (v4.alloc (.cells #[.int .u8 0] 31 (0, 0))) = v4' at *
        generalize v4.heap.size = b11 at *
        refine segS_tail (by kernel_rfl) ?_
        intro v9 hv
        replace hb := below_next hb hb.size hv
        replace kc := keeps hv kc
        replace k11 := keeps hv k11
        replace k12 := keeps hv k12
        replace hgd := hgd.up hv
        clear hv
        simp only [List.drop_succ_cons, List.drop_zero]
        have hk1 : v9.cell? ⟨b11, 0, none⟩ = some (.int .u8 0) ∧ v9.frozen? ⟨b11, 0, none⟩ = false := by simp [World.cell?, World.frozen?, k11]
        obtain ⟨t0, t1⟩ := hk1
        have n12 : b12 ≠ b11 := cells_ne k12 k11 (by decide)
        obtain ⟨d0, d1, d2, f0, f1, f2⟩ := blk3 k12
        have ncq : w.heap.size ≠ b11 := cells_ne (show v9.heap[w.heap.size]? = some (.cells (ccells x).toArray 33 (0, 0)) from kc) k11 (by decide)
        have ncr : w.heap.size ≠ b12 := cells_ne (show v9.heap[w.heap.size]? = some (.cells (ccells x).toArray 33 (0, 0)) from kc) k12 (by decide)
        have k11' : (v9.setCell ⟨b11, 0, none⟩ (.int .u8 x.f)).heap[b11]? = some (.cells #[.int .u8 x.f] 31 (0, 0)) := (store1 k11 (o := 0) (v := .int .u8 x.f)).trans rfl
        have k12' : (v9.setCell ⟨b11, 0, none⟩ (.int .u8 x.f)).heap[b12]? = some (.cells #[.int .u8 0, .slice none 0 0, .int .i64 0] 43 (0, 0)) := store_far k12 n12
        have e12 := (store1 (store1 (store1 k12' (o := 0) (v := .int .u8 ga)) (o := 1) (v := .slice gA gn gc)) (o := 2) (v := .int .i64 gm)).trans rfl
        have e11 : ((((v9.setCell ⟨b11, 0, none⟩ (.int .u8 x.f)).setCell ⟨b12, 0, none⟩ (.int .u8 ga)).setCell ⟨b12, 1, none⟩ (.slice gA gn gc)).setCell ⟨b12, 2, none⟩ (.int .i64 gm)).heap[b11]? = some (.cells #[.int .u8 x.f] 31 (0, 0)) := store_far (store_far (store_far k11' n12.symm) n12.symm) n12.symm
        have ec : ((((v9.setCell ⟨b11, 0, none⟩ (.int .u8 x.f)).setCell ⟨b12, 0, none⟩ (.int .u8 ga)).setCell ⟨b12, 1, none⟩ (.slice gA gn gc)).setCell ⟨b12, 2, none⟩ (.int .i64 gm)).heap[w.heap.size]? = some (cobj x) := store_far (store_far (store_far (store_far kc ncq) ncr) ncr) ncr
        have eb := (((hb.setCell (p := ⟨b11, 0, none⟩) l11 (.int .u8 x.f)).setCell (p := ⟨b12, 0, none⟩) l12 (.int .u8 ga)).setCell (p := ⟨b12, 1, none⟩) l12 (.slice gA gn gc)).setCell (p := ⟨b12, 2, none⟩) l12 (.int .i64 gm)
        have eg : GadIs x (.agg #[.int .u8 ga, .slice gA gn gc, .int .i64 gm]) ((((v9.setCell ⟨b11, 0, none⟩ (.int .u8 x.f)).setCell ⟨b12, 0, none⟩ (.int .u8 ga)).setCell ⟨b12, 1, none⟩ (.slice gA gn gc)).setCell ⟨b12, 2, none⟩ (.int .i64 gm)) := hgd.same (fun b o e => by
          have hr := hgd.row e
          have q1 : b ≠ b11 := cells_ne hr k11 (by decide)
          have q2 : b ≠ b12 := cells_ne hr k12 (by decide)
          exact (store_far (store_far (store_far (store_far hr q1) q2) q2) q2).trans hr.symm)
        have hres : Reg4 x w b11 b12 ga gA gn gc gm ((((v9.setCell ⟨b11, 0, none⟩ (.int .u8 x.f)).setCell ⟨b12, 0, none⟩ (.int .u8 ga)).setCell ⟨b12, 1, none⟩ (.slice gA gn gc)).setCell ⟨b12, 2, none⟩ (.int .i64 gm)) := ⟨eb, ec, e11, e12, eg, l11, l12, hgr⟩
        replace hres := Lib.hid hres
        have n12s := n12.symm
        clear eb ec e11 e12 eg k11' k12' k11 k12 kc hb hgd ncq ncr
        go_wp2
        refine calm_normal ?_
        go_wp2
        go_meet
        exact ⟨b11, b12, ga, gA, gn, gc, gm, rfl, rfl, hres.out⟩
    · refine ⟨by decide, _, rfl, fun v2 K hv hK => ?_⟩
      replace hb := below_next hb hb.size hv
      replace kc := keeps hv kc
      clear hv
      replace hK := Lib.hid hK
      go_simp
      refine hK.out _ _ (HeldS.of_below ((Below.refl _ _).alloc (Nat.le_refl _) _)) ?_
      clear hK K
      have hv : Below v2.heap.size v2 (v2.alloc (.cells #[.int .u8 0] 31 (0, 0))) := (Below.refl _ _).alloc (Nat.le_refl _) _
      have k11 : (v2.alloc (.cells #[.int .u8 0] 31 (0, 0))).heap[v2.heap.size]? = some (.cells #[.int .u8 0] 31 (0, 0)) := alloc_at rfl
      have l11 := hb.size
      replace hb := below_next hb hb.size hv
      replace kc := keeps hv kc
      clear hv
      generalize (v2.alloc (.cells #[.int .u8 0] 31 (0, 0))) = v2' at *
      generalize v2.heap.size = b11 at *
      refine segS_more [3, 5] (by kernel_rfl) (by decide) ?_
      intro y hy
      simp only [List.mem_cons, List.not_mem_nil, or_false] at hy
      rcases hy with rfl | rfl
      · refine ⟨by decide, _, rfl, fun v3 K hv hK => ?_⟩
        replace hb := below_next hb hb.size hv
        replace kc := keeps hv kc
        replace k11 := keeps hv k11
        clear hv
        replace hK := Lib.hid hK
        go_simp
        refine (hG.out v3).mono ?_
        rintro e v3' ⟨ga, gA, gn, gc, gm, rfl, hv, hgd, hgr⟩
        have hgr : ∀ b o, gA = some ⟨b, o, none⟩ → w.heap.size ≤ b := fun b o e => Nat.le_trans hb.size (hgr b o e)
        refine hK.out _ _ (HeldS.of_below hv) ?_
        clear hK K
        replace hb := below_next hb hb.size hv
        replace kc := keeps hv kc
        replace k11 := keeps hv k11
        clear hv
        refine segS_more [5] (by kernel_rfl) (by decide) ?_
        intro y hy
        obtain rfl := List.mem_singleton.1 hy
        refine ⟨by decide, _, rfl, fun v4 K hv hK => ?_⟩
        replace hb := below_next hb hb.size hv
        replace kc := keeps hv kc
        replace k11 := keeps hv k11
        replace hgd := hgd.up hv
        clear hv
        replace hK := Lib.hid hK
        go_simp
        refine hK.out _ _ (HeldS.of_below ((Below.refl _ _).alloc (Nat.le_refl _) _)) ?_
        clear hK K
        have hv : Below v4.heap.size v4 (v4.alloc (.cells #[.int .u8 0, .slice none 0 0, .int .i64 0] 43 (0, 0))) := (Below.refl _ _).alloc (Nat.le_refl _) _
        have k12 : (v4.alloc (.cells #[.int .u8 0, .slice none 0 0, .int .i64 0] 43 (0, 0))).heap[v4.heap.size]? = some (.cells #[.int .u8 0, .slice none 0 0, .int .i64 0] 43 (0, 0)) := alloc_at rfl
        have l12 := hb.size
        replace hb := below_next hb hb.size hv
        replace kc := keeps hv kc
        replace k11 := keeps hv k11
        replace hgd := hgd.up hv
        clear hv
        generalize (v4.alloc (.cells #[.int .u8 0, .slice none 0 0, .int .i64 0] 43 (0, 0))) = v4' at *
        generalize v4.heap.size = b12 at *
        refine segS_tail (by kernel_rfl) ?_
        intro v9 hv
        replace hb := below_next hb hb.size hv
        replace kc := keeps hv kc
        replace k11 := keeps hv k11
        replace k12 := keeps hv k12
        replace hgd := hgd.up hv
        clear hv
        simp only [List.drop_succ_cons, List.drop_zero]
        have hk1 : v9.cell? ⟨b11, 0, none⟩ = some (.int .u8 0) ∧ v9.frozen? ⟨b11, 0, none⟩ = false := by simp [World.cell?, World.frozen?, k11]
        obtain ⟨t0, t1⟩ := hk1
        have n12 : b12 ≠ b11 := cells_ne k12 k11 (by decide)
        obtain ⟨d0, d1, d2, f0, f1, f2⟩ := blk3 k12
        have ncq : w.heap.size ≠ b11 := cells_ne (show v9.heap[w.heap.size]? = some (.cells (ccells x).toArray 33 (0, 0)) from kc) k11 (by decide)
        have ncr : w.heap.size ≠ b12 := cells_ne (show v9.heap[w.heap.size]? = some (.cells (ccells x).toArray 33 (0, 0)) from kc) k12 (by decide)
        have k11' : (v9.setCell ⟨b11, 0, none⟩ (.int .u8 x.f)).heap[b11]? = some (.cells #[.int .u8 x.f] 31 (0, 0)) := (store1 k11 (o := 0) (v := .int .u8 x.f)).trans rfl
        have k12' : (v9.setCell ⟨b11, 0, none⟩ (.int .u8 x.f)).heap[b12]? = some (.cells #[.int .u8 0, .slice none 0 0, .int .i64 0] 43 (0, 0)) := store_far k12 n12
        have e12 := (store1 (store1 (store1 k12' (o := 0) (v := .int .u8 ga)) (o := 1) (v := .slice gA gn gc)) (o := 2) (v := .int .i64 gm)).trans rfl
        have e11 : ((((v9.setCell ⟨b11, 0, none⟩ (.int .u8 x.f)).setCell ⟨b12, 0, none⟩ (.int .u8 ga)).setCell ⟨b12, 1, none⟩ (.slice gA gn gc)).setCell ⟨b12, 2, none⟩ (.int .i64 gm)).heap[b11]? = some (.cells #[.int .u8 x.f] 31 (0, 0)) := store_far (store_far (store_far k11' n12.symm) n12.symm) n12.symm
        have ec : ((((v9.setCell ⟨b11, 0, none⟩ (.int .u8 x.f)).setCell ⟨b12, 0, none⟩ (.int .u8 ga)).setCell ⟨b12, 1, none⟩ (.slice gA gn gc)).setCell ⟨b12, 2, none⟩ (.int .i64 gm)).heap[w.heap.size]? = some (cobj x) := store_far (store_far (store_far (store_far kc ncq) ncr) ncr) ncr
        have eb := (((hb.setCell (p := ⟨b11, 0, none⟩) l11 (.int .u8 x.f)).setCell (p := ⟨b12, 0, none⟩) l12 (.int .u8 ga)).setCell (p := ⟨b12, 1, none⟩) l12 (.slice gA gn gc)).setCell (p := ⟨b12, 2, none⟩) l12 (.int .i64 gm)
        have eg : GadIs x (.agg #[.int .u8 ga, .slice gA gn gc, .int .i64 gm]) ((((v9.setCell ⟨b11, 0, none⟩ (.int .u8 x.f)).setCell ⟨b12, 0, none⟩ (.int .u8 ga)).setCell ⟨b12, 1, none⟩ (.slice gA gn gc)).setCell ⟨b12, 2, none⟩ (.int .i64 gm)) := hgd.same (fun b o e => by
          have hr := hgd.row e
          have q1 : b ≠ b11 := cells_ne hr k11 (by decide)
          have q2 : b ≠ b12 := cells_ne hr k12 (by decide)
          exact (store_far (store_far (store_far (store_far hr q1) q2) q2) q2).trans hr.symm)
        have hres : Reg4 x w b11 b12 ga gA gn gc gm ((((v9.setCell ⟨b11, 0, none⟩ (.int .u8 x.f)).setCell ⟨b12, 0, none⟩ (.int .u8 ga)).setCell ⟨b12, 1, none⟩ (.slice gA gn gc)).setCell ⟨b12, 2, none⟩ (.int .i64 gm)) := ⟨eb, ec, e11, e12, eg, l11, l12, hgr⟩
        replace hres := Lib.hid hres
        have n12s := n12.symm
        clear eb ec e11 e12 eg k11' k12' k11 k12 kc hb hgd ncq ncr
        go_wp2
        refine calm_normal ?_
        go_wp2
        go_meet
        exact ⟨b11, b12, ga, gA, gn, gc, gm, rfl, rfl, hres.out⟩
      · refine ⟨by decide, _, rfl, fun v3 K hv hK => ?_⟩
        replace hb := below_next hb hb.size hv
        replace kc := keeps hv kc
        replace k11 := keeps hv k11
        clear hv
        replace hK := Lib.hid hK
        go_simp
        refine hK.out _ _ (HeldS.of_below ((Below.refl _ _).alloc (Nat.le_refl _) _)) ?_
        clear hK K
        have hv : Below v3.heap.size v3 (v3.alloc (.cells #[.int .u8 0, .slice none 0 0, .int .i64 0] 43 (0, 0))) := (Below.refl _ _).alloc (Nat.le_refl _) _
        have k12 : (v3.alloc (.cells #[.int .u8 0, .slice none 0 0, .int .i64 0] 43 (0, 0))).heap[v3.heap.size]? = some (.cells #[.int .u8 0, .slice none 0 0, .int .i64 0] 43 (0, 0)) := alloc_at rfl
        have l12 := hb.size
        replace hb := below_next hb hb.size hv
        replace kc := keeps hv kc
        replace k11 := keeps hv k11
        clear hv
        generalize (v3.alloc (.cells #[.int .u8 0, .slice none 0 0, .int .i64 0] 43 (0, 0))) = v3' at *
        generalize v3.heap.size = b12 at *
        refine segS_more [3] (by kernel_rfl) (by decide) ?_
        intro y hy
        obtain rfl := List.mem_singleton.1 hy
        refine ⟨by decide, _, rfl, fun v4 K hv hK => ?_⟩
        replace hb := below_next hb hb.size hv
        replace kc := keeps hv kc
        replace k11 := keeps hv k11
        replace k12 := keeps hv k12
        clear hv
        replace hK := Lib.hid hK
        go_simp
        refine (hG.out v4).mono ?_
        rintro e v4' ⟨ga, gA, gn, gc, gm, rfl, hv, hgd, hgr⟩
        have hgr : ∀ b o, gA = some ⟨b, o, none⟩ → w.heap.size ≤ b := fun b o e => Nat.le_trans hb.size (hgr b o e)
        refine hK.out _ _ (HeldS.of_below hv) ?_
        clear hK K
        replace hb := below_next hb hb.size hv
        replace kc := keeps hv kc
        replace k11 := keeps hv k11
        replace k12 := keeps hv k12
        clear hv
        refine segS_tail (by kernel_rfl) ?_
        intro v9 hv
        replace hb := below_next hb hb.size hv
        replace kc := keeps hv kc
        replace k11 := keeps hv k11
        replace k12 := keeps hv k12
        replace hgd := hgd.up hv
        clear hv
        simp only [List.drop_succ_cons, List.drop_zero]
        have hk1 : v9.cell? ⟨b11, 0, none⟩ = some (.int .u8 0) ∧ v9.frozen? ⟨b11, 0, none⟩ = false := by simp [World.cell?, World.frozen?, k11]
        obtain ⟨t0, t1⟩ := hk1
        have n12 : b12 ≠ b11 := cells_ne k12 k11 (by decide)
        obtain ⟨d0, d1, d2, f0, f1, f2⟩ := blk3 k12
        have ncq : w.heap.size ≠ b11 := cells_ne (show v9.heap[w.heap.size]? = some (.cells (ccells x).toArray 33 (0, 0)) from kc) k11 (by decide)
        have ncr : w.heap.size ≠ b12 := cells_ne (show v9.heap[w.heap.size]? = some (.cells (ccells x).toArray 33 (0, 0)) from kc) k12 (by decide)
        have k11' : (v9.setCell ⟨b11, 0, none⟩ (.int .u8 x.f)).heap[b11]? = some (.cells #[.int .u8 x.f] 31 (0, 0)) := (store1 k11 (o := 0) (v := .int .u8 x.f)).trans rfl
        have k12' : (v9.setCell ⟨b11, 0, none⟩ (.int .u8 x.f)).heap[b12]? = some (.cells #[.int .u8 0, .slice none 0 0, .int .i64 0] 43 (0, 0)) := store_far k12 n12
        have e12 := (store1 (store1 (store1 k12' (o := 0) (v := .int .u8 ga)) (o := 1) (v := .slice gA gn gc)) (o := 2) (v := .int .i64 gm)).trans rfl
        have e11 : ((((v9.setCell ⟨b11, 0, none⟩ (.int .u8 x.f)).setCell ⟨b12, 0, none⟩ (.int .u8 ga)).setCell ⟨b12, 1, none⟩ (.slice gA gn gc)).setCell ⟨b12, 2, none⟩ (.int .i64 gm)).heap[b11]? = some (.cells #[.int .u8 x.f] 31 (0, 0)) := store_far (store_far (store_far k11' n12.symm) n12.symm) n12.symm
        have ec : ((((v9.setCell ⟨b11, 0, none⟩ (.int .u8 x.f)).setCell ⟨b12, 0, none⟩ (.int .u8 ga)).setCell ⟨b12, 1, none⟩ (.slice gA gn gc)).setCell ⟨b12, 2, none⟩ (.int .i64 gm)).heap[w.heap.size]? = some (cobj x) := store_far (store_far (store_far (store_far kc ncq) ncr) ncr) ncr
        have eb := (((hb.setCell (p := ⟨b11, 0, none⟩) l11 (.int .u8 x.f)).setCell (p := ⟨b12, 0, none⟩) l12 (.int .u8 ga)).setCell (p := ⟨b12, 1, none⟩) l12 (.slice gA gn gc)).setCell (p := ⟨b12, 2, none⟩) l12 (.int .i64 gm)
        have eg : GadIs x (.agg #[.int .u8 ga, .slice gA gn gc, .int .i64 gm]) ((((v9.setCell ⟨b11, 0, none⟩ (.int .u8 x.f)).setCell ⟨b12, 0, none⟩ (.int .u8 ga)).setCell ⟨b12, 1, none⟩ (.slice gA gn gc)).setCell ⟨b12, 2, none⟩ (.int .i64 gm)) := hgd.same (fun b o e => by
          have hr := hgd.row e
          have q1 : b ≠ b11 := cells_ne hr k11 (by decide)
          have q2 : b ≠ b12 := cells_ne hr k12 (by decide)
          exact (store_far (store_far (store_far (store_far hr q1) q2) q2) q2).trans hr.symm)
        have hres : Reg4 x w b11 b12 ga gA gn gc gm ((((v9.setCell ⟨b11, 0, none⟩ (.int .u8 x.f)).setCell ⟨b12, 0, none⟩ (.int .u8 ga)).setCell ⟨b12, 1, none⟩ (.slice gA gn gc)).setCell ⟨b12, 2, none⟩ (.int .i64 gm)) := ⟨eb, ec, e11, e12, eg, l11, l12, hgr⟩
        replace hres := Lib.hid hres
        have n12s := n12.symm
        clear eb ec e11 e12 eg k11' k12' k11 k12 kc hb hgd ncq ncr
        go_wp2
        refine calm_normal ?_
        go_wp2
        go_meet
        exact ⟨b11, b12, ga, gA, gn, gc, gm, rfl, rfl, hres.out⟩
    · refine ⟨by decide, _, rfl, fun v2 K hv hK => ?_⟩
      replace hb := below_next hb hb.size hv
      replace kc := keeps hv kc
      clear hv
      replace hK := Lib.hid hK
      go_simp
      refine hK.out _ _ (HeldS.of_below ((Below.refl _ _).alloc (Nat.le_refl _) _)) ?_
      clear hK K
      have hv : Below v2.heap.size v2 (v2.alloc (.cells #[.int .u8 0, .slice none 0 0, .int .i64 0] 43 (0, 0))) := (Below.refl _ _).alloc (Nat.le_refl _) _
      have k12 : (v2.alloc (.cells #[.int .u8 0, .slice none 0 0, .int .i64 0] 43 (0, 0))).heap[v2.heap.size]? = some (.cells #[.int .u8 0, .slice none 0 0, .int .i64 0] 43 (0, 0)) := alloc_at rfl
      have l12 := hb.size
      replace hb := below_next hb hb.size hv
      replace kc := keeps hv kc
      clear hv
      generalize (v2.alloc (.cells #[.int .u8 0, .slice none 0 0, .int .i64 0] 43 (0, 0))) = v2' at *
      generalize v2.heap.size = b12 at *
      refine segS_more [3, 4] (by kernel_rfl) (by decide) ?_
      intro y hy
      simp only [List.mem_cons, List.not_mem_nil, or_false] at hy
      rcases hy with rfl | rfl
      · refine ⟨by decide, _, rfl, fun v3 K hv hK => ?_⟩
        replace hb := below_next hb hb.size hv
        replace kc := keeps hv kc
        replace k12 := keeps hv k12
        clear hv
        replace hK := Lib.hid hK
        go_simp
        refine (hG.out v3).mono ?_
        rintro e v3' ⟨ga, gA, gn, gc, gm, rfl, hv, hgd, hgr⟩
        have hgr : ∀ b o, gA = some ⟨b, o, none⟩ → w.heap.size ≤ b := fun b o e => Nat.le_trans hb.size (hgr b o e)
        refine hK.out _ _ (HeldS.of_below hv) ?_
        clear hK K
        replace hb := below_next hb hb.size hv
        replace kc := keeps hv kc
        replace k12 := keeps hv k12
        clear hv
        refine segS_more [4] (by kernel_rfl) (by decide) ?_
        intro y hy
        obtain rfl := List.mem_singleton.1 hy
        refine ⟨by decide, _, rfl, fun v4 K hv hK => ?_⟩
        replace hb := below_next hb hb.size hv
        replace kc := keeps hv kc
        replace k12 := keeps hv k12
        replace hgd := hgd.up hv
        clear hv
        replace hK := Lib.hid hK
        go_simp
        refine hK.out _ _ (HeldS.of_below ((Below.refl _ _).alloc (Nat.le_refl _) _)) ?_
        clear hK K
        have hv : Below v4.heap.size v4 (v4.alloc (.cells #[.int .u8 0] 31 (0, 0))) := (Below.refl _ _).alloc (Nat.le_refl _) _
        have k11 : (v4.alloc (.cells #[.int .u8 0] 31 (0, 0))).heap[v4.heap.size]? = some (.cells #[.int .u8 0] 31 (0, 0)) := alloc_at rfl
        have l11 := hb.size
        replace hb := below_next hb hb.size hv
        replace kc := keeps hv kc
        replace k12 := keeps hv k12
        replace hgd := hgd.up hv
        clear hv
        generalize (v4.alloc (.cells #[.int .u8 0] 31 (0, 0))) = v4' at *
        generalize v4.heap.size = b11 at *
        refine segS_tail (by kernel_rfl) ?_
        intro v9 hv
        replace hb := below_next hb hb.size hv
        replace kc := keeps hv kc
        replace k11 := keeps hv k11
        replace k12 := keeps hv k12
        replace hgd := hgd.up hv
        clear hv
        simp only [List.drop_succ_cons, List.drop_zero]
        have hk1 : v9.cell? ⟨b11, 0, none⟩ = some (.int .u8 0) ∧ v9.frozen? ⟨b11, 0, none⟩ = false := by simp [World.cell?, World.frozen?, k11]
        obtain ⟨t0, t1⟩ := hk1
        have n12 : b12 ≠ b11 := cells_ne k12 k11 (by decide)
        obtain ⟨d0, d1, d2, f0, f1, f2⟩ := blk3 k12
        have ncq : w.heap.size ≠ b11 := cells_ne (show v9.heap[w.heap.size]? = some (.cells (ccells x).toArray 33 (0, 0)) from kc) k11 (by decide)
        have ncr : w.heap.size ≠ b12 := cells_ne (show v9.heap[w.heap.size]? = some (.cells (ccells x).toArray 33 (0, 0)) from kc) k12 (by decide)
        have k11' : (v9.setCell ⟨b11, 0, none⟩ (.int .u8 x.f)).heap[b11]? = some (.cells #[.int .u8 x.f] 31 (0, 0)) := (store1 k11 (o := 0) (v := .int .u8 x.f)).trans rfl
        have k12' : (v9.setCell ⟨b11, 0, none⟩ (.int .u8 x.f)).heap[b12]? = some (.cells #[.int .u8 0, .slice none 0 0, .int .i64 0] 43 (0, 0)) := store_far k12 n12
        have e12 := (store1 (store1 (store1 k12' (o := 0) (v := .int .u8 ga)) (o := 1) (v := .slice gA gn gc)) (o := 2) (v := .int .i64 gm)).trans rfl
        have e11 : ((((v9.setCell ⟨b11, 0, none⟩ (.int .u8 x.f)).setCell ⟨b12, 0, none⟩ (.int .u8 ga)).setCell ⟨b12, 1, none⟩ (.slice gA gn gc)).setCell ⟨b12, 2, none⟩ (.int .i64 gm)).heap[b11]? = some (.cells #[.int .u8 x.f] 31 (0, 0)) := store_far (store_far (store_far k11' n12.symm) n12.symm) n12.symm
        have ec : ((((v9.setCell ⟨b11, 0, none⟩ (.int .u8 x.f)).setCell ⟨b12, 0, none⟩ (.int .u8 ga)).setCell ⟨b12, 1, none⟩ (.slice gA gn gc)).setCell ⟨b12, 2, none⟩ (.int .i64 gm)).heap[w.heap.size]? = some (cobj x) := store_far (store_far (store_far (store_far kc ncq) ncr) ncr) ncr
        have eb := (((hb.setCell (p := ⟨b11, 0, none⟩) l11 (.int .u8 x.f)).setCell (p := ⟨b12, 0, none⟩) l12 (.int .u8 ga)).setCell (p := ⟨b12, 1, none⟩) l12 (.slice gA gn gc)).setCell (p := ⟨b12, 2, none⟩) l12 (.int .i64 gm)
        have eg : GadIs x (.agg #[.int .u8 ga, .slice gA gn gc, .int .i64 gm]) ((((v9.setCell ⟨b11, 0, none⟩ (.int .u8 x.f)).setCell ⟨b12, 0, none⟩ (.int .u8 ga)).setCell ⟨b12, 1, none⟩ (.slice gA gn gc)).setCell ⟨b12, 2, none⟩ (.int .i64 gm)) := hgd.same (fun b o e => by
          have hr := hgd.row e
          have q1 : b ≠ b11 := cells_ne hr k11 (by decide)
          have q2 : b ≠ b12 := cells_ne hr k12 (by decide)
          exact (store_far (store_far (store_far (store_far hr q1) q2) q2) q2).trans hr.symm)
        have hres : Reg4 x w b11 b12 ga gA gn gc gm ((((v9.setCell ⟨b11, 0, none⟩ (.int .u8 x.f)).setCell ⟨b12, 0, none⟩ (.int .u8 ga)).setCell ⟨b12, 1, none⟩ (.slice gA gn gc)).setCell ⟨b12, 2, none⟩ (.int .i64 gm)) := ⟨eb, ec, e11, e12, eg, l11, l12, hgr⟩
        replace hres := Lib.hid hres
        have n12s := n12.symm
        clear eb ec e11 e12 eg k11' k12' k11 k12 kc hb hgd ncq ncr
        go_wp2
        refine calm_normal ?_
        go_wp2
        go_meet
        exact ⟨b11, b12, ga, gA, gn, gc, gm, rfl, rfl, hres.out⟩
      · refine ⟨by decide, _, rfl, fun v3 K hv hK => ?_⟩
        replace hb := below_next hb hb.size hv
        replace kc := keeps hv kc
        replace k12 := keeps hv k12
        clear hv
        replace hK := Lib.hid hK
        go_simp
        refine hK.out _ _ (HeldS.of_below ((Below.refl _ _).alloc (Nat.le_refl _) _)) ?_
        clear hK K
        have hv : Below v3.heap.size v3 (v3.alloc (.cells #[.int .u8 0] 31 (0, 0))) := (Below.refl _ _).alloc (Nat.le_refl _) _
        have k11 : (v3.alloc (.cells #[.int .u8 0] 31 (0, 0))).heap[v3.heap.size]? = some (.cells #[.int .u8 0] 31 (0, 0)) := alloc_at rfl
        have l11 := hb.size
        replace hb := below_next hb hb.size hv
        replace kc := keeps hv kc
        replace k12 := keeps hv k12
        clear hv
        generalize (v3.alloc (.cells #[.int .u8 0] 31 (0, 0))) = v3' at *
        generalize v3.heap.size = b11 at *
        refine segS_more [3] (by kernel_rfl) (by decide) ?_
        intro y hy
        obtain rfl := List.mem_singleton.1 hy
        refine ⟨by decide, _, rfl, fun v4 K hv hK => ?_⟩
        replace hb := below_next hb hb.size hv
        replace kc := keeps hv kc
        replace k11 := keeps hv k11
        replace k12 := keeps hv k12
        clear hv
        replace hK := Lib.hid hK
        go_simp
        refine (hG.out v4).mono ?_
        rintro e v4' ⟨ga, gA, gn, gc, gm, rfl, hv, hgd, hgr⟩
        have hgr : ∀ b o, gA = some ⟨b, o, none⟩ → w.heap.size ≤ b := fun b o e => Nat.le_trans hb.size (hgr b o e)
        refine hK.out _ _ (HeldS.of_below hv) ?_
        clear hK K
        replace hb := below_next hb hb.size hv
        replace kc := keeps hv kc
        replace k11 := keeps hv k11
        replace k12 := keeps hv k12
        clear hv
        refine segS_tail (by kernel_rfl) ?_
        intro v9 hv
        replace hb := below_next hb hb.size hv
        replace kc := keeps hv kc
        replace k11 := keeps hv k11
        replace k12 := keeps hv k12
        replace hgd := hgd.up hv
        clear hv
        simp only [List.drop_succ_cons, List.drop_zero]
        have hk1 : v9.cell? ⟨b11, 0, none⟩ = some (.int .u8 0) ∧ v9.frozen? ⟨b11, 0, none⟩ = false := by simp [World.cell?, World.frozen?, k11]
        obtain ⟨t0, t1⟩ := hk1
        have n12 : b12 ≠ b11 := cells_ne k12 k11 (by decide)
        obtain ⟨d0, d1, d2, f0, f1, f2⟩ := blk3 k12
        have ncq : w.heap.size ≠ b11 := cells_ne (show v9.heap[w.heap.size]? = some (.cells (ccells x).toArray 33 (0, 0)) from kc) k11 (by decide)
        have ncr : w.heap.size ≠ b12 := cells_ne (show v9.heap[w.heap.size]? = some (.cells (ccells x).toArray 33 (0, 0)) from kc) k12 (by decide)
        have k11' : (v9.setCell ⟨b11, 0, none⟩ (.int .u8 x.f)).heap[b11]? = some (.cells #[.int .u8 x.f] 31 (0, 0)) := (store1 k11 (o := 0) (v := .int .u8 x.f)).trans rfl
        have k12' : (v9.setCell ⟨b11, 0, none⟩ (.int .u8 x.f)).heap[b12]? = some (.cells #[.int .u8 0, .slice none 0 0, .int .i64 0] 43 (0, 0)) := store_far k12 n12
        have e12 := (store1 (store1 (store1 k12' (o := 0) (v := .int .u8 ga)) (o := 1) (v := .slice gA gn gc)) (o := 2) (v := .int .i64 gm)).trans rfl
        have e11 : ((((v9.setCell ⟨b11, 0, none⟩ (.int .u8 x.f)).setCell ⟨b12, 0, none⟩ (.int .u8 ga)).setCell ⟨b12, 1, none⟩ (.slice gA gn gc)).setCell ⟨b12, 2, none⟩ (.int .i64 gm)).heap[b11]? = some (.cells #[.int .u8 x.f] 31 (0, 0)) := store_far (store_far (store_far k11' n12.symm) n12.symm) n12.symm
        have ec : ((((v9.setCell ⟨b11, 0, none⟩ (.int .u8 x.f)).setCell ⟨b12, 0, none⟩ (.int .u8 ga)).setCell ⟨b12, 1, none⟩ (.slice gA gn gc)).setCell ⟨b12, 2, none⟩ (.int .i64 gm)).heap[w.heap.size]? = some (cobj x) := store_far (store_far (store_far (store_far kc ncq) ncr) ncr) ncr
        have eb := (((hb.setCell (p := ⟨b11, 0, none⟩) l11 (.int .u8 x.f)).setCell (p := ⟨b12, 0, none⟩) l12 (.int .u8 ga)).setCell (p := ⟨b12, 1, none⟩) l12 (.slice gA gn gc)).setCell (p := ⟨b12, 2, none⟩) l12 (.int .i64 gm)
        have eg : GadIs x (.agg #[.int .u8 ga, .slice gA gn gc, .int .i64 gm]) ((((v9.setCell ⟨b11, 0, none⟩ (.int .u8 x.f)).setCell ⟨b12, 0, none⟩ (.int .u8 ga)).setCell ⟨b12, 1, none⟩ (.slice gA gn gc)).setCell ⟨b12, 2, none⟩ (.int .i64 gm)) := hgd.same (fun b o e => by
          have hr := hgd.row e
          have q1 : b ≠ b11 := cells_ne hr k11 (by decide)
          have q2 : b ≠ b12 := cells_ne hr k12 (by decide)
          exact (store_far (store_far (store_far (store_far hr q1) q2) q2) q2).trans hr.symm)
        have hres : Reg4 x w b11 b12 ga gA gn gc gm ((((v9.setCell ⟨b11, 0, none⟩ (.int .u8 x.f)).setCell ⟨b12, 0, none⟩ (.int .u8 ga)).setCell ⟨b12, 1, none⟩ (.slice gA gn gc)).setCell ⟨b12, 2, none⟩ (.int .i64 gm)) := ⟨eb, ec, e11, e12, eg, l11, l12, hgr⟩
        replace hres := Lib.hid hres
        have n12s := n12.symm
        clear eb ec e11 e12 eg k11' k12' k11 k12 kc hb hgd ncq ncr
        go_wp2
        refine calm_normal ?_
        go_wp2
        go_meet
        exact ⟨b11, b12, ga, gA, gn, gc, gm, rfl, rfl, hres.out⟩
  case rest =>
    clear hb kc
    obtain ⟨b11, b12, ga, gA, gn, gc, gm, rfl, rfl, h4⟩ := hcut
    obtain ⟨g0, g1, g2, g3⟩ := h4.cells
    have har := Lib.hid (hAr.out _ _ h4.gad)
    have hb := Lib.hid h4.b
    clear h4 hG hAr
    go_wp2_with fail
    refine call_then har.out ?_
    intro w3 hv
    replace hb := Lib.hid (below_next hb.out hb.out.size hv)
    clear hv har g0 g1 g2 g3
    go_wp2
    go_ret2
    exact ⟨rfl, hb.out⟩
set_option maxRecDepth 20000 in
set_option maxHeartbeats 16000000 in
theorem prove_vector (x : Ci) (h : x.Good) (ha : x.arityN ≤ 100) (D : Nat) (hDp : D = pow2 (x.callsN + 1)) (hD : D ≤ 1024) (hD1 : 1 ≤ D) (sd : List Int) (Ax Bs Bj : Option Addr) (N cp n cs J cj : Nat) (hn : x.arityN = n) (hsl : sd.length = n) (hs : ElemsOK sd) (hN : N ≠ x.inN) (w : World) (hS : ElemsAt w Bs sd) :
    Calls Tryz.prog 18 #[cvl x, .slice Ax N cp, .slice Bs n cs, .slice Bj J cj] w fun e w' => e = .returned (.tuple #[.slice none 0 0, .int .i64 9]) ∧ Below w.heap.size w w' := by
  have hCk := Lib.hid (fun w => check_good h w)
  have hG := Lib.hid (fun w => gadget_new x h w)
  have hAr := Lib.hid (fun v (w : World) (hv : GadIs x v w) => garity_any x h hv)
  have hDo := Lib.hid (domain_any x h)
  have hNw := Lib.hid (fun w hA => newWires_any h.f sd Bs n cs D hsl (by omega) hD hD1 hs w hA)
  have hRn := Lib.hid (fun caps w => run_size x Ax Bj N cp J cj 1 62 caps h (.inl hN) w)
  unfold GadNew at hG
  unfold WiresNew at hNw
  unfold RunBad at hRn
  unfold NumBy at hDo
  rw [← hDp] at hDo
  unfold cvl at *
  rw [hn] at ha
  replace hS := Lib.hid hS
  replace hn := Lib.hid hn
  clear hsl hs hN hDp h
  go_enter Tryz.func18, Tryz.ntmps18
  go_upto_region 1 with (fail)
  refine name_wp (fun w1 => Below w.heap.size w w1 ∧ w1.heap[w.heap.size]? = some (cobj x)) ⟨(Below.refl _ _).alloc (Nat.le_refl _) _, alloc_at rfl⟩ ?_
  rintro w1 ⟨hb, kc⟩
  obtain ⟨c0, c1, c2, c3, c4, c5⟩ := blk6z kc
  go_wp2_with fail
  refine call_then (hCk.out _) ?_
  intro w2 hv
  replace hb := below_next hb hb.size hv
  replace kc := keeps hv kc
  clear hv c0 c1 c2 c3 c4 c5
  go_upto_region 4 with (fail)
  go_cut [11, 12] (fun p q w' => ∃ b11 b12 ga gA gn gc gm, p = .pointer (some ⟨b11, 0, none⟩) ∧ q = .pointer (some ⟨b12, 0, none⟩) ∧ Reg4 x w b11 b12 ga gA gn gc gm w')
  case first =>
    refine segS_start (gb := fun _ => True) 6 (by kernel_rfl) (by decide) ?_
    intro v0 hv
    replace hb := below_next hb hb.size hv
    replace kc := keeps hv kc
    clear hv
    refine segS_batch 3 [0, 1, 2] (by kernel_rfl) rfl (by kernel_rfl) (by kernel_rfl) (by kernel_rfl) ?_
    apply Exists.intro
    refine ⟨fun ι _ φ hφ => ?_, fun v1 hv => ?_⟩
    · have qd := fun i => blk6z ((hφ.old i).keeps kc trivial)
      have q0 := fun i => (qd i).1
      have q1 := fun i => (qd i).2.1
      have q2 := fun i => (qd i).2.2.1
      have q3 := fun i => (qd i).2.2.2.1
      have q4 := fun i => (qd i).2.2.2.2.1
      have q5 := fun i => (qd i).2.2.2.2.2
      clear qd
      repeat (refine pick_step rfl ?_; go_big_quiet_step (fail))
      exact pick_end
    replace hb := below_next hb hb.size hv
    replace kc := keeps hv kc
    clear hv
    refine segS_more [3, 4, 5] (by kernel_rfl) (by decide) ?_
    intro y hy
    simp only [List.mem_cons, List.not_mem_nil, or_false] at hy
    rcases hy with rfl | rfl | rfl
    · refine ⟨by decide, _, rfl, fun v2 K hv hK => ?_⟩
      replace hb := below_next hb hb.size hv
      replace kc := keeps hv kc
      clear hv
      replace hK := Lib.hid hK
      go_simp
      refine (hG.out v2).mono ?_
      rintro e v2' ⟨ga, gA, gn, gc, gm, rfl, hv, hgd, hgr⟩
      have hgr : ∀ b o, gA = some ⟨b, o, none⟩ → w.heap.size ≤ b := fun b o e => Nat.le_trans hb.size (hgr b o e)
      refine hK.out _ _ (HeldS.of_below hv) ?_
      clear hK K
      replace hb := below_next hb hb.size hv
      replace kc := keeps hv kc
      clear hv
      refine segS_more [4, 5] (by kernel_rfl) (by decide) ?_
      intro y hy
      simp only [List.mem_cons, List.not_mem_nil, or_false] at hy
      rcases hy with rfl | rfl
      · refine ⟨by decide, _, rfl, fun v3 K hv hK => ?_⟩
        replace hb := below_next hb hb.size hv
        replace kc := keeps hv kc
        replace hgd := hgd.up hv
        clear hv
        replace hK := Lib.hid hK
        go_simp
        refine hK.out _ _ (HeldS.of_below ((Below.refl _ _).alloc (Nat.le_refl _) _)) ?_
        clear hK K
        have hv : Below v3.heap.size v3 (v3.alloc (.cells #[.int .u8 0] 31 (0, 0))) := (Below.refl _ _).alloc (Nat.le_refl _) _
        have k11 : (v3.alloc (.cells #[.int .u8 0] 31 (0, 0))).heap[v3.heap.size]? = some (.cells #[.int .u8 0] 31 (0, 0)) := alloc_at rfl
        have l11 := hb.size
        replace hb := below_next hb hb.size hv
        replace kc := keeps hv kc
        replace hgd := hgd.up hv
        clear hv
        generalize (v3.alloc (.cells #[.int .u8 0] 31 (0, 0))) = v3' at *
        generalize v3.heap.size = b11 at *
        refine segS_more [5] (by kernel_rfl) (by decide) ?_
        intro y hy
        obtain rfl := List.mem_singleton.1 hy
        refine ⟨by decide, _, rfl, fun v4 K hv hK => ?_⟩
        replace hb := below_next hb hb.size hv
        replace kc := keeps hv kc
        replace k11 := keeps hv k11
        replace hgd := hgd.up hv
        clear hv
        replace hK := Lib.hid hK
        go_simp
        refine hK.out _ _ (HeldS.of_below ((Below.refl _ _).alloc (Nat.le_refl _) _)) ?_
        clear hK K
        have hv : Below v4.heap.size v4 (v4.alloc (.cells #[.int .u8 0, .slice none 0 0, .int .i64 0] 43 (0, 0))) := (Below.refl _ _).alloc (Nat.le_refl _) _
        have k12 : (v4.alloc (.cells #[.int .u8 0, .slice none 0 0, .int .i64 0] 43 (0, 0))).heap[v4.heap.size]? = some (.cells #[.int .u8 0, .slice none 0 0, .int .i64 0] 43 (0, 0)) := alloc_at rfl
        have l12 := hb.size
        replace hb := below_next hb hb.size hv
        replace kc := keeps hv kc
        replace k11 := keeps hv k11
        replace hgd := hgd.up hv
        clear hv
        generalize (v4.alloc (.cells #[.int .u8 0, .slice none 0 0, .int .i64 0] 43 (0, 0))) = v4' at *
        generalize v4.heap.size = b12 at *
        refine segS_tail (by kernel_rfl) ?_
        intro v9 hv
        replace hb := below_next hb hb.size hv
        replace kc := keeps hv kc
        replace k11 := keeps hv k11
        replace k12 := keeps hv k12
        replace hgd := hgd.up hv
        clear hv
        simp only [List.drop_succ_cons, List.drop_zero]
        have hk1 : v9.cell? ⟨b11, 0, none⟩ = some (.int .u8 0) ∧ v9.frozen? ⟨b11, 0, none⟩ = false := by simp [World.cell?, World.frozen?, k11]
        obtain ⟨t0, t1⟩ := hk1
        have n12 : b12 ≠ b11 := cells_ne k12 k11 (by decide)
        obtain ⟨d0, d1, d2, f0, f1, f2⟩ := blk3 k12
        have ncq : w.heap.size ≠ b11 := cells_ne (show v9.heap[w.heap.size]? = some (.cells (ccells x).toArray 33 (0, 0)) from kc) k11 (by decide)
        have ncr : w.heap.size ≠ b12 := cells_ne (show v9.heap[w.heap.size]? = some (.cells (ccells x).toArray 33 (0, 0)) from kc) k12 (by decide)
        have k11' : (v9.setCell ⟨b11, 0, none⟩ (.int .u8 x.f)).heap[b11]? = some (.cells #[.int .u8 x.f] 31 (0, 0)) := (store1 k11 (o := 0) (v := .int .u8 x.f)).trans rfl
        have k12' : (v9.setCell ⟨b11, 0, none⟩ (.int .u8 x.f)).heap[b12]? = some (.cells #[.int .u8 0, .slice none 0 0, .int .i64 0] 43 (0, 0)) := store_far k12 n12
        have e12 := (store1 (store1 (store1 k12' (o := 0) (v := .int .u8 ga)) (o := 1) (v := .slice gA gn gc)) (o := 2) (v := .int .i64 gm)).trans rfl
        have e11 : ((((v9.setCell ⟨b11, 0, none⟩ (.int .u8 x.f)).setCell ⟨b12, 0, none⟩ (.int .u8 ga)).setCell ⟨b12, 1, none⟩ (.slice gA gn gc)).setCell ⟨b12, 2, none⟩ (.int .i64 gm)).heap[b11]? = some (.cells #[.int .u8 x.f] 31 (0, 0)) := store_far (store_far (store_far k11' n12.symm) n12.symm) n12.symm
        have ec : ((((v9.setCell ⟨b11, 0, none⟩ (.int .u8 x.f)).setCell ⟨b12, 0, none⟩ (.int .u8 ga)).setCell ⟨b12, 1, none⟩ (.slice gA gn gc)).setCell ⟨b12, 2, none⟩ (.int .i64 gm)).heap[w.heap.size]? = some (cobj x) := store_far (store_far (store_far (store_far kc ncq) ncr) ncr) ncr
        have eb := (((hb.setCell (p := ⟨b11, 0, none⟩) l11 (.int .u8 x.f)).setCell (p := ⟨b12, 0, none⟩) l12 (.int .u8 ga)).setCell (p := ⟨b12, 1, none⟩) l12 (.slice gA gn gc)).setCell (p := ⟨b12, 2, none⟩) l12 (.int .i64 gm)
        have eg : GadIs x (.agg #[.int .u8 ga, .slice gA gn gc, .int .i64 gm]) ((((v9.setCell ⟨b11, 0, none⟩ (.int .u8 x.f)).setCell ⟨b12, 0, none⟩ (.int .u8 ga)).setCell ⟨b12, 1, none⟩ (.slice gA gn gc)).setCell ⟨b12, 2, none⟩ (.int .i64 gm)) := hgd.same (fun b o e => by
          have hr := hgd.row e
          have q1 : b ≠ b11 := cells_ne hr k11 (by decide)
          have q2 : b ≠ b12 := cells_ne hr k12 (by decide)
          exact (store_far (store_far (store_far (store_far hr q1) q2) q2) q2).trans hr.symm)
        have hres : Reg4 x w b11 b12 ga gA gn gc gm ((((v9.setCell ⟨b11, 0, none⟩ (.int .u8 x.f)).setCell ⟨b12, 0, none⟩ (.int .u8 ga)).setCell ⟨b12, 1, none⟩ (.slice gA gn gc)).setCell ⟨b12, 2, none⟩ (.int .i64 gm)) := ⟨eb, ec, e11, e12, eg, l11, l12, hgr⟩
        replace hres := Lib.hid hres
        have n12s := n12.symm
        clear eb ec e11 e12 eg k11' k12' k11 k12 kc hb hgd ncq ncr
        go_wp2
        refine calm_normal ?_
        go_wp2
        go_meet
        exact ⟨b11, b12, ga, gA, gn, gc, gm, rfl, rfl, hres.out⟩
      · refine ⟨by decide, _, rfl, fun v3 K hv hK => ?_⟩
        replace hb := below_next hb hb.size hv
        replace kc := keeps hv kc
        replace hgd := hgd.up hv
        clear hv
        replace hK := Lib.hid hK
        go_simp
        refine hK.out _ _ (HeldS.of_below ((Below.refl _ _).alloc (Nat.le_refl _) _)) ?_
        clear hK K
        have hv : Below v3.heap.size v3 (v3.alloc (.cells #[.int .u8 0, .slice none 0 0, .int .i64 0] 43 (0, 0))) := (Below.refl _ _).alloc (Nat.le_refl _) _
        have k12 : (v3.alloc (.cells #[.int .u8 0, .slice none 0 0, .int .i64 0] 43 (0, 0))).heap[v3.heap.size]? = some (.cells #[.int .u8 0, .slice none 0 0, .int .i64 0] 43 (0, 0)) := alloc_at rfl
        have l12 := hb.size
        replace hb := below_next hb hb.size hv
        replace kc := keeps hv kc
        replace hgd := hgd.up hv
        clear hv
        generalize (v3.alloc (.cells #[.int .u8 0, .slice none 0 0, .int .i64 0] 43 (0, 0))) = v3' at *
        generalize v3.heap.size = b12 at *
        refine segS_more [4] (by kernel_rfl) (by decide) ?_
        intro y hy
        obtain rfl := List.mem_singleton.1 hy
        refine ⟨by decide, _, rfl, fun v4 K hv hK => ?_⟩
        replace hb := below_next hb hb.size hv
        replace kc := keeps hv kc
        replace k12 := keeps hv k12
        replace hgd := hgd.up hv
        clear hv
        replace hK := Lib.hid hK
        go_simp
        refine hK.out _ _ (HeldS.of_below ((Below.refl _ _).alloc (Nat.le_refl _) _)) ?_
        clear hK K
        have hv : Below v4.heap.size v4 (v4.alloc (.cells #[.int .u8 0] 31 (0, 0))) := (Below.refl _ _).alloc (Nat.le_refl _) _
        have k11 : (v4.alloc (.cells #[.int .u8 0] 31 (0, 0))).heap[v4.heap.size]? = some (.cells #[.int .u8 0] 31 (0, 0)) := alloc_at rfl
        have l11 := hb.size
        replace hb := below_next hb hb.size hv
        replace kc := keeps hv kc
        replace k12 := keeps hv k12
        replace hgd := hgd.up hv
        clear hv
        generalize (v4.alloc (.cells #[.int .u8 0] 31 (0, 0))) = v4' at *
        generalize v4.heap.size = b11 at *
        refine segS_tail (by kernel_rfl) ?_
        intro v9 hv
        replace hb := below_next hb hb.size hv
        replace kc := keeps hv kc
        replace k11 := keeps hv k11
        replace k12 := keeps hv k12
        replace hgd := hgd.up hv
        clear hv
        simp only [List.drop_succ_cons, List.drop_zero]
        have hk1 : v9.cell? ⟨b11, 0, none⟩ = some (.int .u8 0) ∧ v9.frozen? ⟨b11, 0, none⟩ = false := by simp [World.cell?, World.frozen?, k11]
        obtain ⟨t0, t1⟩ := hk1
        have n12 : b12 ≠ b11 := cells_ne k12 k11 (by decide)
        obtain ⟨d0, d1, d2, f0, f1, f2⟩ := blk3 k12
        have ncq : w.heap.size ≠ b11 := cells_ne (show v9.heap[w.heap.size]? = some (.cells (ccells x).toArray 33 (0, 0)) from kc) k11 (by decide)
        have ncr : w.heap.size ≠ b12 := cells_ne (show v9.heap[w.heap.size]? = some (.cells (ccells x).toArray 33 (0, 0)) from kc) k12 (by decide)
        have k11' : (v9.setCell ⟨b11, 0, none⟩ (.int .u8 x.f)).heap[b11]? = some (.cells #[.int .u8 x.f] 31 (0, 0)) := (store1 k11 (o := 0) (v := .int .u8 x.f)).trans rfl
        have k12' : (v9.setCell ⟨b11, 0, none⟩ (.int .u8 x.f)).heap[b12]? = some (.cells #[.int .u8 0, .slice none 0 0, .int .i64 0] 43 (0, 0)) := store_far k12 n12
        have e12 := (store1 (store1 (store1 k12' (o := 0) (v := .int .u8 ga)) (o := 1) (v := .slice gA gn gc)) (o := 2) (v := .int .i64 gm)).trans rfl
        have e11 : ((((v9.setCell ⟨b11, 0, none⟩ (.int .u8 x.f)).setCell ⟨b12, 0, none⟩ (.int .u8 ga)).setCell ⟨b12, 1, none⟩ (.slice gA gn gc)).setCell ⟨b12, 2, none⟩ (.int .i64 gm)).heap[b11]? = some (.cells #[.int .u8 x.f] 31 (0, 0)) := store_far (store_far (store_far k11' n12.symm) n12.symm) n12.symm
        have ec : ((((v9.setCell ⟨b11, 0, none⟩ (.int .u8 x.f)).setCell ⟨b12, 0, none⟩ (.int .u8 ga)).setCell ⟨b12, 1, none⟩ (.slice gA gn gc)).setCell ⟨b12, 2, none⟩ (.int .i64 gm)).heap[w.heap.size]? = some (cobj x) := store_far (store_far (store_far (store_far kc ncq) ncr) ncr) ncr
        have eb := (((hb.setCell (p := ⟨b11, 0, none⟩) l11 (.int .u8 x.f)).setCell (p := ⟨b12, 0, none⟩) l12 (.int .u8 ga)).setCell (p := ⟨b12, 1, none⟩) l12 (.slice gA gn gc)).setCell (p := ⟨b12, 2, none⟩) l12 (.int .i64 gm)
        have eg : GadIs x (.agg #[.int .u8 ga, .slice gA gn gc, .int .i64 gm]) ((((v9.setCell ⟨b11, 0, none⟩ (.int .u8 x.f)).setCell ⟨b12, 0, none⟩ (.int .u8 ga)).setCell ⟨b12, 1, none⟩ (.slice gA gn gc)).setCell ⟨b12, 2, none⟩ (.int .i64 gm)) := hgd.same (fun b o e => by
          have hr := hgd.row e
          have q1 : b ≠ b11 := cells_ne hr k11 (by decide)
          have q2 : b ≠ b12 := cells_ne hr k12 (by decide)
          exact (store_far (store_far (store_far (store_far hr q1) q2) q2) q2).trans hr.symm)
        have hres : Reg4 x w b11 b12 ga gA gn gc gm ((((v9.setCell ⟨b11, 0, none⟩ (.int .u8 x.f)).setCell ⟨b12, 0, none⟩ (.int .u8 ga)).setCell ⟨b12, 1, none⟩ (.slice gA gn gc)).setCell ⟨b12, 2, none⟩ (.int .i64 gm)) := ⟨eb, ec, e11, e12, eg, l11, l12, hgr⟩
        replace hres := Lib.hid hres
        have n12s := n12.symm
        clear eb ec e11 e12 eg k11' k12' k11 k12 kc hb hgd ncq ncr
        go_wp2
        refine calm_normal ?_
        go_wp2
        go_meet
        exact ⟨b11, b12, ga, gA, gn, gc, gm, rfl, rfl, hres.out⟩
    · refine ⟨by decide, _, rfl, fun v2 K hv hK => ?_⟩
      replace hb := below_next hb hb.size hv
      replace kc := keeps hv kc
      clear hv
      replace hK := Lib.hid hK
      go_simp
      refine hK.out _ _ (HeldS.of_below ((Below.refl _ _).alloc (Nat.le_refl _) _)) ?_
      clear hK K
      have hv : Below v2.heap.size v2 (v2.alloc (.cells #[.int .u8 0] 31 (0, 0))) := (Below.refl _ _).alloc (Nat.le_refl _) _
      have k11 : (v2.alloc (.cells #[.int .u8 0] 31 (0, 0))).heap[v2.heap.size]? = some (.cells #[.int .u8 0] 31 (0, 0)) := alloc_at rfl
      have l11 := hb.size
      replace hb := below_next hb hb.size hv
      replace kc := keeps hv kc
      clear hv
      generalize (v2.alloc (.cells #[.int .u8 0] 31 (0, 0))) = v2' at *
      generalize v2.heap.size = b11 at *
      refine segS_more [3, 5] (by kernel_rfl) (by decide) ?_
      intro y hy
      simp only [List.mem_cons, List.not_mem_nil, or_false] at hy
      rcases hy with rfl | rfl
      · refine ⟨by decide, _, rfl, fun v3 K hv hK => ?_⟩
        replace hb := below_next hb hb.size hv
        replace kc := keeps hv kc
        replace k11 := keeps hv k11
        clear hv
        replace hK := Lib.hid hK
        go_simp
        refine (hG.out v3).mono ?_
        rintro e v3' ⟨ga, gA, gn, gc, gm, rfl, hv, hgd, hgr⟩
        have hgr : ∀ b o, gA = some ⟨b, o, none⟩ → w.heap.size ≤ b := fun b o e => Nat.le_trans hb.size (hgr b o e)
        refine hK.out _ _ (HeldS.of_below hv) ?_
        clear hK K
        replace hb := below_next hb hb.size hv
        replace kc := keeps hv kc
        replace k11 := keeps hv k11
        clear hv
        refine segS_more [5] (by kernel_rfl) (by decide) ?_
        intro y hy
        obtain rfl := List.mem_singleton.1 hy
        refine ⟨by decide, _, rfl, fun v4 K hv hK => ?_⟩
        replace hb := below_next hb hb.size hv
        replace kc := keeps hv kc
        replace k11 := keeps hv k11
        replace hgd := hgd.up hv
        clear hv
        replace hK := Lib.hid hK
        go_simp
        refine hK.out _ _ (HeldS.of_below ((Below.refl _ _).alloc (Nat.le_refl _) _)) ?_
        clear hK K
        have hv : Below v4.heap.size v4 (v4.alloc (.cells #[.int .u8 0, .slice none 0 0, .int .i64 0] 43 (0, 0))) := (Below.refl _ _).alloc (Nat.le_refl _) _
        have k12 : (v4.alloc (.cells #[.int .u8 0, .slice none 0 0, .int .i64 0] 43 (0, 0))).heap[v4.heap.size]? = some (.cells #[.int .u8 0, .slice none 0 0, .int .i64 0] 43 (0, 0)) := alloc_at rfl
        have l12 := hb.size
        replace hb := below_next hb hb.size hv
        replace kc := keeps hv kc
        replace k11 := keeps hv k11
        replace hgd := hgd.up hv
        clear hv
        generalize (v4.alloc (.cells #[.int .u8 0, .slice none 0 0, .int .i64 0] 43 (0, 0))) = v4' at *
        generalize v4.heap.size = b12 at *
        refine segS_tail (by kernel_rfl) ?_
        intro v9 hv
        replace hb := below_next hb hb.size hv
        replace kc := keeps hv kc
        replace k11 := keeps hv k11
        replace k12 := keeps hv k12
        replace hgd := hgd.up hv
        clear hv
        simp only [List.drop_succ_cons, List.drop_zero]
        have hk1 : v9.cell? ⟨b11, 0, none⟩ = some (.int .u8 0) ∧ v9.frozen? ⟨b11, 0, none⟩ = false := by simp [World.cell?, World.frozen?, k11]
        obtain ⟨t0, t1⟩ := hk1
        have n12 : b12 ≠ b11 := cells_ne k12 k11 (by decide)
        obtain ⟨d0, d1, d2, f0, f1, f2⟩ := blk3 k12
        have ncq : w.heap.size ≠ b11 := cells_ne (show v9.heap[w.heap.size]? = some (.cells (ccells x).toArray 33 (0, 0)) from kc) k11 (by decide)
        have ncr : w.heap.size ≠ b12 := cells_ne (show v9.heap[w.heap.size]? = some (.cells (ccells x).toArray 33 (0, 0)) from kc) k12 (by decide)
        have k11' : (v9.setCell ⟨b11, 0, none⟩ (.int .u8 x.f)).heap[b11]? = some (.cells #[.int .u8 x.f] 31 (0, 0)) := (store1 k11 (o := 0) (v := .int .u8 x.f)).trans rfl
        have k12' : (v9.setCell ⟨b11, 0, none⟩ (.int .u8 x.f)).heap[b12]? = some (.cells #[.int .u8 0, .slice none 0 0, .int .i64 0] 43 (0, 0)) := store_far k12 n12
        have e12 := (store1 (store1 (store1 k12' (o := 0) (v := .int .u8 ga)) (o := 1) (v := .slice gA gn gc)) (o := 2) (v := .int .i64 gm)).trans rfl
        have e11 : ((((v9.setCell ⟨b11, 0, none⟩ (.int .u8 x.f)).setCell ⟨b12, 0, none⟩ (.int .u8 ga)).setCell ⟨b12, 1, none⟩ (.slice gA gn gc)).setCell ⟨b12, 2, none⟩ (.int .i64 gm)).heap[b11]? = some (.cells #[.int .u8 x.f] 31 (0, 0)) := store_far (store_far (store_far k11' n12.symm) n12.symm) n12.symm
        have ec : ((((v9.setCell ⟨b11, 0, none⟩ (.int .u8 x.f)).setCell ⟨b12, 0, none⟩ (.int .u8 ga)).setCell ⟨b12, 1, none⟩ (.slice gA gn gc)).setCell ⟨b12, 2, none⟩ (.int .i64 gm)).heap[w.heap.size]? = some (cobj x) := store_far (store_far (store_far (store_far kc ncq) ncr) ncr) ncr
        have eb := (((hb.setCell (p := ⟨b11, 0, none⟩) l11 (.int .u8 x.f)).setCell (p := ⟨b12, 0, none⟩) l12 (.int .u8 ga)).setCell (p := ⟨b12, 1, none⟩) l12 (.slice gA gn gc)).setCell (p := ⟨b12, 2, none⟩) l12 (.int .i64 gm)
        have eg : GadIs x (.agg #[.int .u8 ga, .slice gA gn gc, .int .i64 gm]) ((((v9.setCell ⟨b11, 0, none⟩ (.int .u8 x.f)).setCell ⟨b12, 0, none⟩ (.int .u8 ga)).setCell ⟨b12, 1, none⟩ (.slice gA gn gc)).setCell ⟨b12, 2, none⟩ (.int .i64 gm)) := hgd.same (fun b o e => by
          have hr := hgd.row e
          have q1 : b ≠ b11 := cells_ne hr k11 (by decide)
          have q2 : b ≠ b12 := cells_ne hr k12 (by decide)
          exact (store_far (store_far (store_far (store_far hr q1) q2) q2) q2).trans hr.symm)
        have hres : Reg4 x w b11 b12 ga gA gn gc gm ((((v9.setCell ⟨b11, 0, none⟩ (.int .u8 x.f)).setCell ⟨b12, 0, none⟩ (.int .u8 ga)).setCell ⟨b12, 1, none⟩ (.slice gA gn gc)).setCell ⟨b12, 2, none⟩ (.int .i64 gm)) := ⟨eb, ec, e11, e12, eg, l11, l12, hgr⟩
        replace hres := Lib.hid hres
        have n12s := n12.symm
        clear eb ec e11 e12 eg k11' k12' k11 k12 kc hb hgd ncq ncr
        go_wp2
        refine calm_normal ?_
        go_wp2
        go_meet
        exact ⟨b11, b12, ga, gA, gn, gc, gm, rfl, rfl, hres.out⟩
      · refine ⟨by decide, _, rfl, fun v3 K hv hK => ?_⟩
        replace hb := below_next hb hb.size hv
        replace kc := keeps hv kc
        replace k11 := keeps hv k11
        clear hv
        replace hK := Lib.hid hK
        go_simp
        refine hK.out _ _ (HeldS.of_below ((Below.refl _ _).alloc (Nat.le_refl _) _)) ?_
        clear hK K
        have hv : Below v3.heap.size v3 (v3.alloc (.cells #[.int .u8 0, .slice none 0 0, .int .i64 0] 43 (0, 0))) := (Below.refl _ _).alloc (Nat.le_refl _) _
        have k12 : (v3.alloc (.cells #[.int .u8 0, .slice none 0 0, .int .i64 0] 43 (0, 0))).heap[v3.heap.size]? = some (.cells #[.int .u8 0, .slice none 0 0, .int .i64 0] 43 (0, 0)) := alloc_at rfl
        have l12 := hb.size
        replace hb := below_next hb hb.size hv
        replace kc := keeps hv kc
        replace k11 := keeps hv k11
        clear hv
        generalize (v3.alloc (.cells #[.int .u8 0, .slice none 0 0, .int .i64 0] 43 (0, 0))) = v3' at *
        generalize v3.heap.size = b12 at *
        refine segS_more [3] (by kernel_rfl) (by decide) ?_
        intro y hy
        obtain rfl := List.mem_singleton.1 hy
        refine ⟨by decide, _, rfl, fun v4 K hv hK => ?_⟩
        replace hb := below_next hb hb.size hv
        replace kc := keeps hv kc
        replace k11 := keeps hv k11
        replace k12 := keeps hv k12
        clear hv
        replace hK := Lib.hid hK
        go_simp
        refine (hG.out v4).mono ?_
        rintro e v4' ⟨ga, gA, gn, gc, gm, rfl, hv, hgd, hgr⟩
        have hgr : ∀ b o, gA = some ⟨b, o, none⟩ → w.heap.size ≤ b := fun b o e => Nat.le_trans hb.size (hgr b o e)
        refine hK.out _ _ (HeldS.of_below hv) ?_
        clear hK K
        replace hb := below_next hb hb.size hv
        replace kc := keeps hv kc
        replace k11 := keeps hv k11
        replace k12 := keeps hv k12
        clear hv
        refine segS_tail (by kernel_rfl) ?_
        intro v9 hv
        replace hb := below_next hb hb.size hv
        replace kc := keeps hv kc
        replace k11 := keeps hv k11
        replace k12 := keeps hv k12
        replace hgd := hgd.up hv
        clear hv
        simp only [List.drop_succ_cons, List.drop_zero]
        have hk1 : v9.cell? ⟨b11, 0, none⟩ = some (.int .u8 0) ∧ v9.frozen? ⟨b11, 0, none⟩ = false := by simp [World.cell?, World.frozen?, k11]
        obtain ⟨t0, t1⟩ := hk1
        have n12 : b12 ≠ b11 := cells_ne k12 k11 (by decide)
        obtain ⟨d0, d1, d2, f0, f1, f2⟩ := blk3 k12
        have ncq : w.heap.size ≠ b11 := cells_ne (show v9.heap[w.heap.size]? = some (.cells (ccells x).toArray 33 (0, 0)) from kc) k11 (by decide)
        have ncr : w.heap.size ≠ b12 := cells_ne (show v9.heap[w.heap.size]? = some (.cells (ccells x).toArray 33 (0, 0)) from kc) k12 (by decide)
        have k11' : (v9.setCell ⟨b11, 0, none⟩ (.int .u8 x.f)).heap[b11]? = some (.cells #[.int .u8 x.f] 31 (0, 0)) := (store1 k11 (o := 0) (v := .int .u8 x.f)).trans rfl
        have k12' : (v9.setCell ⟨b11, 0, none⟩ (.int .u8 x.f)).heap[b12]? = some (.cells #[.int .u8 0, .slice none 0 0, .int .i64 0] 43 (0, 0)) := store_far k12 n12
        have e12 := (store1 (store1 (store1 k12' (o := 0) (v := .int .u8 ga)) (o := 1) (v := .slice gA gn gc)) (o := 2) (v := .int .i64 gm)).trans rfl
        have e11 : ((((v9.setCell ⟨b11, 0, none⟩ (.int .u8 x.f)).setCell ⟨b12, 0, none⟩ (.int .u8 ga)).setCell ⟨b12, 1, none⟩ (.slice gA gn gc)).setCell ⟨b12, 2, none⟩ (.int .i64 gm)).heap[b11]? = some (.cells #[.int .u8 x.f] 31 (0, 0)) := store_far (store_far (store_far k11' n12.symm) n12.symm) n12.symm
        have ec : ((((v9.setCell ⟨b11, 0, none⟩ (.int .u8 x.f)).setCell ⟨b12, 0, none⟩ (.int .u8 ga)).setCell ⟨b12, 1, none⟩ (.slice gA gn gc)).setCell ⟨b12, 2, none⟩ (.int .i64 gm)).heap[w.heap.size]? = some (cobj x) := store_far (store_far (store_far (store_far kc ncq) ncr) ncr) ncr
        have eb := (((hb.setCell (p := ⟨b11, 0, none⟩) l11 (.int .u8 x.f)).setCell (p := ⟨b12, 0, none⟩) l12 (.int .u8 ga)).setCell (p := ⟨b12, 1, none⟩) l12 (.slice gA gn gc)).setCell (p := ⟨b12, 2, none⟩) l12 (.int .i64 gm)
        have eg : GadIs x (.agg #[.int .u8 ga, .slice gA gn gc, .int .i64 gm]) ((((v9.setCell ⟨b11, 0, none⟩ (.int .u8 x.f)).setCell ⟨b12, 0, none⟩ (.int .u8 ga)).setCell ⟨b12, 1, none⟩ (.slice gA gn gc)).setCell ⟨b12, 2, none⟩ (.int .i64 gm)) := hgd.same (fun b o e => by
          have hr := hgd.row e
          have q1 : b ≠ b11 := cells_ne hr k11 (by decide)
          have q2 : b ≠ b12 := cells_ne hr k12 (by decide)
          exact (store_far (store_far (store_far (store_far hr q1) q2) q2) q2).trans hr.symm)
        have hres : Reg4 x w b11 b12 ga gA gn gc gm ((((v9.setCell ⟨b11, 0, none⟩ (.int .u8 x.f)).setCell ⟨b12, 0, none⟩ (.int .u8 ga)).setCell ⟨b12, 1, none⟩ (.slice gA gn gc)).setCell ⟨b12, 2, none⟩ (.int .i64 gm)) := ⟨eb, ec, e11, e12, eg, l11, l12, hgr⟩
        replace hres := Lib.hid hres
        have n12s := n12.symm
        clear eb ec e11 e12 eg k11' k12' k11 k12 kc hb hgd ncq ncr
        go_wp2
        refine calm_normal ?_
        go_wp2
        go_meet
        exact ⟨b11, b12, ga, gA, gn, gc, gm, rfl, rfl, hres.out⟩
    · refine ⟨by decide, _, rfl, fun v2 K hv hK => ?_⟩
      replace hb := below_next hb hb.size hv
      replace kc := keeps hv kc
      clear hv
      replace hK := Lib.hid hK
      go_simp
      refine hK.out _ _ (HeldS.of_below ((Below.refl _ _).alloc (Nat.le_refl _) _)) ?_
      clear hK K
      have hv : Below v2.heap.size v2 (v2.alloc (.cells #[.int .u8 0, .slice none 0 0, .int .i64 0] 43 (0, 0))) := (Below.refl _ _).alloc (Nat.le_refl _) _
      have k12 : (v2.alloc (.cells #[.int .u8 0, .slice none 0 0, .int .i64 0] 43 (0, 0))).heap[v2.heap.size]? = some (.cells #[.int .u8 0, .slice none 0 0, .int .i64 0] 43 (0, 0)) := alloc_at rfl
      have l12 := hb.size
      replace hb := below_next hb hb.size hv
      replace kc := keeps hv kc
      clear hv
      generalize (v2.alloc (.cells #[.int .u8 0, .slice none 0 0, .int .i64 0] 43 (0, 0))) = v2' at *
      generalize v2.heap.size = b12 at *
      refine segS_more [3, 4] (by kernel_rfl) (by decide) ?_
      intro y hy
      simp only [List.mem_cons, List.not_mem_nil, or_false] at hy
      rcases hy with rfl | rfl
      · refine ⟨by decide, _, rfl, fun v3 K hv hK => ?_⟩
        replace hb := below_next hb hb.size hv
        replace kc := keeps hv kc
        replace k12 := keeps hv k12
        clear hv
        replace hK := Lib.hid hK
        go_simp
        refine (hG.out v3).mono ?_
        rintro e v3' ⟨ga, gA, gn, gc, gm, rfl, hv, hgd, hgr⟩
        have hgr : ∀ b o, gA = some ⟨b, o, none⟩ → w.heap.size ≤ b := fun b o e => Nat.le_trans hb.size (hgr b o e)
        refine hK.out _ _ (HeldS.of_below hv) ?_
        clear hK K
        replace hb := below_next hb hb.size hv
        replace kc := keeps hv kc
        replace k12 := keeps hv k12
        clear hv
        refine segS_more [4] (by kernel_rfl) (by decide) ?_
        intro y hy
        obtain rfl := List.mem_singleton.1 hy
        refine ⟨by decide, _, rfl, fun v4 K hv hK => ?_⟩
        replace hb := below_next hb hb.size hv
        replace kc := keeps hv kc
        replace k12 := keeps hv k12
        replace hgd := hgd.up hv
        clear hv
        replace hK := Lib.hid hK
        go_simp
        refine hK.out _ _ (HeldS.of_below ((Below.refl _ _).alloc (Nat.le_refl _) _)) ?_
        clear hK K
        have hv : Below v4.heap.size v4 (v4.alloc (.cells #[.int .u8 0] 31 (0, 0))) := (Below.refl _ _).alloc (Nat.le_refl _) _
        have k11 : (v4.alloc (.cells #[.int .u8 0] 31 (0, 0))).heap[v4.heap.size]? = some (.cells #[.int .u8 0] 31 (0, 0)) := alloc_at rfl
        have l11 := hb.size
        replace hb := below_next hb hb.size hv
        replace kc := keeps hv kc
        replace k12 := keeps hv k12
        replace hgd := hgd.up hv
        clear hv
        generalize (v4.alloc (.cells #[.int .u8 0] 31 (0, 0))) = v4' at *
        generalize v4.heap.size = b11 at *
        refine segS_tail (by kernel_rfl) ?_
        intro v9 hv
        replace hb := below_next hb hb.size hv
        replace kc := keeps hv kc
        replace k11 := keeps hv k11
        replace k12 := keeps hv k12
        replace hgd := hgd.up hv
        clear hv
        simp only [List.drop_succ_cons, List.drop_zero]
        have hk1 : v9.cell? ⟨b11, 0, none⟩ = some (.int .u8 0) ∧ v9.frozen? ⟨b11, 0, none⟩ = false := by simp [World.cell?, World.frozen?, k11]
        obtain ⟨t0, t1⟩ := hk1
        have n12 : b12 ≠ b11 := cells_ne k12 k11 (by decide)
        obtain ⟨d0, d1, d2, f0, f1, f2⟩ := blk3 k12
        have ncq : w.heap.size ≠ b11 := cells_ne (show v9.heap[w.heap.size]? = some (.cells (ccells x).toArray 33 (0, 0)) from kc) k11 (by decide)
        have ncr : w.heap.size ≠ b12 := cells_ne (show v9.heap[w.heap.size]? = some (.cells (ccells x).toArray 33 (0, 0)) from kc) k12 (by decide)
        have k11' : (v9.setCell ⟨b11, 0, none⟩ (.int .u8 x.f)).heap[b11]? = some (.cells #[.int .u8 x.f] 31 (0, 0)) := (store1 k11 (o := 0) (v := .int .u8 x.f)).trans rfl
        have k12' : (v9.setCell ⟨b11, 0, none⟩ (.int .u8 x.f)).heap[b12]? = some (.cells #[.int .u8 0, .slice none 0 0, .int .i64 0] 43 (0, 0)) := store_far k12 n12
        have e12 := (store1 (store1 (store1 k12' (o := 0) (v := .int .u8 ga)) (o := 1) (v := .slice gA gn gc)) (o := 2) (v := .int .i64 gm)).trans rfl
        have e11 : ((((v9.setCell ⟨b11, 0, none⟩ (.int .u8 x.f)).setCell ⟨b12, 0, none⟩ (.int .u8 ga)).setCell ⟨b12, 1, none⟩ (.slice gA gn gc)).setCell ⟨b12, 2, none⟩ (.int .i64 gm)).heap[b11]? = some (.cells #[.int .u8 x.f] 31 (0, 0)) := store_far (store_far (store_far k11' n12.symm) n12.symm) n12.symm
        have ec : ((((v9.setCell ⟨b11, 0, none⟩ (.int .u8 x.f)).setCell ⟨b12, 0, none⟩ (.int .u8 ga)).setCell ⟨b12, 1, none⟩ (.slice gA gn gc)).setCell ⟨b12, 2, none⟩ (.int .i64 gm)).heap[w.heap.size]? = some (cobj x) := store_far (store_far (store_far (store_far kc ncq) ncr) ncr) ncr
        have eb := (((hb.setCell (p := ⟨b11, 0, none⟩) l11 (.int .u8 x.f)).setCell (p := ⟨b12, 0, none⟩) l12 (.int .u8 ga)).setCell (p := ⟨b12, 1, none⟩) l12 (.slice gA gn gc)).setCell (p := ⟨b12, 2, none⟩) l12 (.int .i64 gm)
        have eg : GadIs x (.agg #[.int .u8 ga, .slice gA gn gc, .int .i64 gm]) ((((v9.setCell ⟨b11, 0, none⟩ (.int .u8 x.f)).setCell ⟨b12, 0, none⟩ (.int .u8 ga)).setCell ⟨b12, 1, none⟩ (.slice gA gn gc)).setCell ⟨b12, 2, none⟩ (.int .i64 gm)) := hgd.same (fun b o e => by
          have hr := hgd.row e
          have q1 : b ≠ b11 := cells_ne hr k11 (by decide)
          have q2 : b ≠ b12 := cells_ne hr k12 (by decide)
          exact (store_far (store_far (store_far (store_far hr q1) q2) q2) q2).trans hr.symm)
        have hres : Reg4 x w b11 b12 ga gA gn gc gm ((((v9.setCell ⟨b11, 0, none⟩ (.int .u8 x.f)).setCell ⟨b12, 0, none⟩ (.int .u8 ga)).setCell ⟨b12, 1, none⟩ (.slice gA gn gc)).setCell ⟨b12, 2, none⟩ (.int .i64 gm)) := ⟨eb, ec, e11, e12, eg, l11, l12, hgr⟩
        replace hres := Lib.hid hres
        have n12s := n12.symm
        clear eb ec e11 e12 eg k11' k12' k11 k12 kc hb hgd ncq ncr
        go_wp2
        refine calm_normal ?_
        go_wp2
        go_meet
        exact ⟨b11, b12, ga, gA, gn, gc, gm, rfl, rfl, hres.out⟩
      · refine ⟨by decide, _, rfl, fun v3 K hv hK => ?_⟩
        replace hb := below_next hb hb.size hv
        replace kc := keeps hv kc
        replace k12 := keeps hv k12
        clear hv
        replace hK := Lib.hid hK
        go_simp
        refine hK.out _ _ (HeldS.of_below ((Below.refl _ _).alloc (Nat.le_refl _) _)) ?_
        clear hK K
        have hv : Below v3.heap.size v3 (v3.alloc (.cells #[.int .u8 0] 31 (0, 0))) := (Below.refl _ _).alloc (Nat.le_refl _) _
        have k11 : (v3.alloc (.cells #[.int .u8 0] 31 (0, 0))).heap[v3.heap.size]? = some (.cells #[.int .u8 0] 31 (0, 0)) := alloc_at rfl
        have l11 := hb.size
        replace hb := below_next hb hb.size hv
        replace kc := keeps hv kc
        replace k12 := keeps hv k12
        clear hv
        generalize (v3.alloc (.cells #[.int .u8 0] 31 (0, 0))) = v3' at *
        generalize v3.heap.size = b11 at *
        refine segS_more [3] (by kernel_rfl) (by decide) ?_
        intro y hy
        obtain rfl := List.mem_singleton.1 hy
        refine ⟨by decide, _, rfl, fun v4 K hv hK => ?_⟩
        replace hb := below_next hb hb.size hv
        replace kc := keeps hv kc
        replace k11 := keeps hv k11
        replace k12 := keeps hv k12
        clear hv
        replace hK := Lib.hid hK
        go_simp
        refine (hG.out v4).mono ?_
        rintro e v4' ⟨ga, gA, gn, gc, gm, rfl, hv, hgd, hgr⟩
        have hgr : ∀ b o, gA = some ⟨b, o, none⟩ → w.heap.size ≤ b := fun b o e => Nat.le_trans hb.size (hgr b o e)
        refine hK.out _ _ (HeldS.of_below hv) ?_
        clear hK K
        replace hb := below_next hb hb.size hv
        replace kc := keeps hv kc
        replace k11 := keeps hv k11
        replace k12 := keeps hv k12
        clear hv
        refine segS_tail (by kernel_rfl) ?_
        intro v9 hv
        replace hb := below_next hb hb.size hv
        replace kc := keeps hv kc
        replace k11 := keeps hv k11
        replace k12 := keeps hv k12
        replace hgd := hgd.up hv
        clear hv
        simp only [List.drop_succ_cons, List.drop_zero]
        have hk1 : v9.cell? ⟨b11, 0, none⟩ = some (.int .u8 0) ∧ v9.frozen? ⟨b11, 0, none⟩ = false := by simp [World.cell?, World.frozen?, k11]
        obtain ⟨t0, t1⟩ := hk1
        have n12 : b12 ≠ b11 := cells_ne k12 k11 (by decide)
        obtain ⟨d0, d1, d2, f0, f1, f2⟩ := blk3 k12
        have ncq : w.heap.size ≠ b11 := cells_ne (show v9.heap[w.heap.size]? = some (.cells (ccells x).toArray 33 (0, 0)) from kc) k11 (by decide)
        have ncr : w.heap.size ≠ b12 := cells_ne (show v9.heap[w.heap.size]? = some (.cells (ccells x).toArray 33 (0, 0)) from kc) k12 (by decide)
        have k11' : (v9.setCell ⟨b11, 0, none⟩ (.int .u8 x.f)).heap[b11]? = some (.cells #[.int .u8 x.f] 31 (0, 0)) := (store1 k11 (o := 0) (v := .int .u8 x.f)).trans rfl
        have k12' : (v9.setCell ⟨b11, 0, none⟩ (.int .u8 x.f)).heap[b12]? = some (.cells #[.int .u8 0, .slice none 0 0, .int .i64 0] 43 (0, 0)) := store_far k12 n12
        have e12 := (store1 (store1 (store1 k12' (o := 0) (v := .int .u8 ga)) (o := 1) (v := .slice gA gn gc)) (o := 2) (v := .int .i64 gm)).trans rfl
        have e11 : ((((v9.setCell ⟨b11, 0, none⟩ (.int .u8 x.f)).setCell ⟨b12, 0, none⟩ (.int .u8 ga)).setCell ⟨b12, 1, none⟩ (.slice gA gn gc)).setCell ⟨b12, 2, none⟩ (.int .i64 gm)).heap[b11]? = some (.cells #[.int .u8 x.f] 31 (0, 0)) := store_far (store_far (store_far k11' n12.symm) n12.symm) n12.symm
        have ec : ((((v9.setCell ⟨b11, 0, none⟩ (.int .u8 x.f)).setCell ⟨b12, 0, none⟩ (.int .u8 ga)).setCell ⟨b12, 1, none⟩ (.slice gA gn gc)).setCell ⟨b12, 2, none⟩ (.int .i64 gm)).heap[w.heap.size]? = some (cobj x) := store_far (store_far (store_far (store_far kc ncq) ncr) ncr) ncr
        have eb := (((hb.setCell (p := ⟨b11, 0, none⟩) l11 (.int .u8 x.f)).setCell (p := ⟨b12, 0, none⟩) l12 (.int .u8 ga)).setCell (p := ⟨b12, 1, none⟩) l12 (.slice gA gn gc)).setCell (p := ⟨b12, 2, none⟩) l12 (.int .i64 gm)
        have eg : GadIs x (.agg #[.int .u8 ga, .slice gA gn gc, .int .i64 gm]) ((((v9.setCell ⟨b11, 0, none⟩ (.int .u8 x.f)).setCell ⟨b12, 0, none⟩ (.int .u8 ga)).setCell ⟨b12, 1, none⟩ (.slice gA gn gc)).setCell ⟨b12, 2, none⟩ (.int .i64 gm)) := hgd.same (fun b o e => by
          have hr := hgd.row e
          have q1 : b ≠ b11 := cells_ne hr k11 (by decide)
          have q2 : b ≠ b12 := cells_ne hr k12 (by decide)
          exact (store_far (store_far (store_far (store_far hr q1) q2) q2) q2).trans hr.symm)
        have hres : Reg4 x w b11 b12 ga gA gn gc gm ((((v9.setCell ⟨b11, 0, none⟩ (.int .u8 x.f)).setCell ⟨b12, 0, none⟩ (.int .u8 ga)).setCell ⟨b12, 1, none⟩ (.slice gA gn gc)).setCell ⟨b12, 2, none⟩ (.int .i64 gm)) := ⟨eb, ec, e11, e12, eg, l11, l12, hgr⟩
        replace hres := Lib.hid hres
        have n12s := n12.symm
        clear eb ec e11 e12 eg k11' k12' k11 k12 kc hb hgd ncq ncr
        go_wp2
        refine calm_normal ?_
        go_wp2
        go_meet
        exact ⟨b11, b12, ga, gA, gn, gc, gm, rfl, rfl, hres.out⟩
  case rest =>
    clear hb kc
    obtain ⟨b11, b12, ga, gA, gn, gc, gm, rfl, rfl, h4⟩ := hcut
    obtain ⟨g0, g1, g2, g3⟩ := h4.cells
    have har := hAr.out _ _ h4.gad
    rw [hn.out] at har
    replace har := Lib.hid har
    replace h4 := Lib.hid h4
    clear hCk
    go_wp2_with fail
    refine call_then har.out ?_
    intro w3 hv
    replace h4 := h4.out.up hv
    clear hv har g0 g1 g2 g3
    go_upto_region 7 with (fail)
    go_cut [13] (fun p w' => ∃ b13 P G R, p = .pointer (some ⟨b13, 0, none⟩) ∧ Reg7 x w b11 b12 ga gA gn gc gm sd n D b13 P G R w')
    case first =>
      refine segS_start (gb := fun _ => True) 6 (by kernel_rfl) (by decide) ?_
      intro v0 hv
      replace h4 := h4.up hv
      clear hv
      refine segS_batch 2 [0, 1, 2, 3] (by kernel_rfl) rfl (by kernel_rfl) (by kernel_rfl) (by kernel_rfl) ?_
      apply Exists.intro
      refine ⟨fun ι _ φ hφ => ?_, fun v1 hv => ?_⟩
      · have qd := fun i => blk6z ((hφ.old i).keeps h4.c trivial)
        have q0 := fun i => (qd i).1
        have q1 := fun i => (qd i).2.1
        have q2 := fun i => (qd i).2.2.1
        have q3 := fun i => (qd i).2.2.2.1
        have q4 := fun i => (qd i).2.2.2.2.1
        have q5 := fun i => (qd i).2.2.2.2.2
        have q6 := fun i => cell_oneP ((hφ.old i).keeps h4.k11 trivial)
        clear qd
        repeat (refine pick_step rfl ?_; go_big_quiet_step ((go_at_call 24; exact flowS_call hφ (hDo.out _))))
        exact pick_end
      replace h4 := h4.up hv
      clear hv
      refine segS_more [4, 5] (by kernel_rfl) (by decide) ?_
      intro y hy
      simp only [List.mem_cons, List.not_mem_nil, or_false] at hy
      rcases hy with rfl | rfl
      · refine ⟨by decide, _, rfl, fun v2 K hv hK => ?_⟩
        replace h4 := h4.up hv
        clear hv
        replace hK := Lib.hid hK
        have hcl := Lib.hid (hNw.out v2 (hS.out.up h4.b))
        go_simp
        refine hcl.out.mono ?_
        rintro e v2' ⟨P, G, R, rfl, hv, hw7, lP, lG, lR⟩
        have hgw : ∀ b o, gA = some ⟨b, o, none⟩ → ¬ ownW P G n R b := fun b o e he => by
          have hlt := lt_of_get (h4.gad.row e)
          rcases he with rfl | rfl | ⟨i, hin, rfl⟩
          · omega
          · omega
          · have := lR i hin; omega
        have hlw : ∀ b, ownW P G n R b → w.heap.size ≤ b := fun b he => by
          have hz := h4.b.size
          rcases he with rfl | rfl | ⟨i, hin, rfl⟩
          · omega
          · omega
          · have := lR i hin; omega
        refine hK.out _ _ (HeldS.of_below hv) ?_
        clear hK K hcl lP lG lR
        replace h4 := h4.up hv
        clear hv
        refine segS_more [5] (by kernel_rfl) (by decide) ?_
        intro y hy
        obtain rfl := List.mem_singleton.1 hy
        refine ⟨by decide, _, rfl, fun v3 K hv hK => ?_⟩
        replace h4 := h4.up hv
        replace hw7 := hw7.up hv
        clear hv
        replace hK := Lib.hid hK
        go_simp
        refine hK.out _ _ (HeldS.of_below ((Below.refl _ _).alloc (Nat.le_refl _) _)) ?_
        clear hK K
        have hv : Below v3.heap.size v3 (v3.alloc (.cells #[.pointer none] 91 (0, 0))) := (Below.refl _ _).alloc (Nat.le_refl _) _
        have k13 : (v3.alloc (.cells #[.pointer none] 91 (0, 0))).heap[v3.heap.size]? = some (.cells #[.pointer none] 91 (0, 0)) := alloc_at rfl
        have l13 := h4.b.size
        replace h4 := h4.up hv
        replace hw7 := hw7.up hv
        clear hv
        generalize (v3.alloc (.cells #[.pointer none] 91 (0, 0))) = v3' at *
        generalize v3.heap.size = b13 at *
        refine segS_tail (by kernel_rfl) ?_
        intro v9 hv
        replace h4 := h4.up hv
        replace hw7 := hw7.up hv
        replace k13 := keeps hv k13
        clear hv
        simp only [List.drop_succ_cons, List.drop_zero]
        have hk1 : v9.cell? ⟨b13, 0, none⟩ = some (.pointer none) ∧ v9.frozen? ⟨b13, 0, none⟩ = false := by simp [World.cell?, World.frozen?, k13]
        obtain ⟨t0, t1⟩ := hk1
        have k13' : (v9.setCell ⟨b13, 0, none⟩ (.pointer (some ⟨P, 0, none⟩))).heap[b13]? = some (.cells #[.pointer (some ⟨P, 0, none⟩)] 91 (0, 0)) := (store1 k13 (o := 0) (v := .pointer (some ⟨P, 0, none⟩))).trans rfl
        have h4' := h4.far k13 l13 (.pointer (some ⟨P, 0, none⟩))
        have hw7' : Wp P G n D R (sdV x.f sd) n 0 (v9.setCell ⟨b13, 0, none⟩ (.pointer (some ⟨P, 0, none⟩))) := hw7.same (fun b hbb => by
          have hne : b ≠ b13 := by
            rcases hbb with rfl | rfl | ⟨i, hin, rfl⟩
            · exact cells_ne hw7.p k13 (by decide)
            · exact cells_ne hw7.g k13 (by decide)
            · exact cells_ne (hw7.r i hin) k13 (by decide)
          exact Below.heap_setCell _ _ _ _ hne)
        have hres : Reg7 x w b11 b12 ga gA gn gc gm sd n D b13 P G R (v9.setCell ⟨b13, 0, none⟩ (.pointer (some ⟨P, 0, none⟩))) := ⟨h4', k13', hw7', hgw, hlw, l13⟩
        replace hres := Lib.hid hres
        clear h4' k13' hw7' h4 hw7 k13 hgw hlw
        go_wp2
        refine calm_normal ?_
        go_wp2
        go_meet
        exact ⟨b13, P, G, R, rfl, hres.out⟩
      · refine ⟨by decide, _, rfl, fun v2 K hv hK => ?_⟩
        replace h4 := h4.up hv
        clear hv
        replace hK := Lib.hid hK
        go_simp
        refine hK.out _ _ (HeldS.of_below ((Below.refl _ _).alloc (Nat.le_refl _) _)) ?_
        clear hK K
        have hv : Below v2.heap.size v2 (v2.alloc (.cells #[.pointer none] 91 (0, 0))) := (Below.refl _ _).alloc (Nat.le_refl _) _
        have k13 : (v2.alloc (.cells #[.pointer none] 91 (0, 0))).heap[v2.heap.size]? = some (.cells #[.pointer none] 91 (0, 0)) := alloc_at rfl
        have l13 := h4.b.size
        replace h4 := h4.up hv
        clear hv
        generalize (v2.alloc (.cells #[.pointer none] 91 (0, 0))) = v2' at *
        generalize v2.heap.size = b13 at *
        refine segS_more [4] (by kernel_rfl) (by decide) ?_
        intro y hy
        obtain rfl := List.mem_singleton.1 hy
        refine ⟨by decide, _, rfl, fun v3 K hv hK => ?_⟩
        replace h4 := h4.up hv
        replace k13 := keeps hv k13
        clear hv
        replace hK := Lib.hid hK
        have hcl := Lib.hid (hNw.out v3 (hS.out.up h4.b))
        go_simp
        refine hcl.out.mono ?_
        rintro e v3' ⟨P, G, R, rfl, hv, hw7, lP, lG, lR⟩
        have hgw : ∀ b o, gA = some ⟨b, o, none⟩ → ¬ ownW P G n R b := fun b o e he => by
          have hlt := lt_of_get (h4.gad.row e)
          rcases he with rfl | rfl | ⟨i, hin, rfl⟩
          · omega
          · omega
          · have := lR i hin; omega
        have hlw : ∀ b, ownW P G n R b → w.heap.size ≤ b := fun b he => by
          have hz := h4.b.size
          rcases he with rfl | rfl | ⟨i, hin, rfl⟩
          · omega
          · omega
          · have := lR i hin; omega
        refine hK.out _ _ (HeldS.of_below hv) ?_
        clear hK K hcl lP lG lR
        replace h4 := h4.up hv
        replace k13 := keeps hv k13
        clear hv
        refine segS_tail (by kernel_rfl) ?_
        intro v9 hv
        replace h4 := h4.up hv
        replace hw7 := hw7.up hv
        replace k13 := keeps hv k13
        clear hv
        simp only [List.drop_succ_cons, List.drop_zero]
        have hk1 : v9.cell? ⟨b13, 0, none⟩ = some (.pointer none) ∧ v9.frozen? ⟨b13, 0, none⟩ = false := by simp [World.cell?, World.frozen?, k13]
        obtain ⟨t0, t1⟩ := hk1
        have k13' : (v9.setCell ⟨b13, 0, none⟩ (.pointer (some ⟨P, 0, none⟩))).heap[b13]? = some (.cells #[.pointer (some ⟨P, 0, none⟩)] 91 (0, 0)) := (store1 k13 (o := 0) (v := .pointer (some ⟨P, 0, none⟩))).trans rfl
        have h4' := h4.far k13 l13 (.pointer (some ⟨P, 0, none⟩))
        have hw7' : Wp P G n D R (sdV x.f sd) n 0 (v9.setCell ⟨b13, 0, none⟩ (.pointer (some ⟨P, 0, none⟩))) := hw7.same (fun b hbb => by
          have hne : b ≠ b13 := by
            rcases hbb with rfl | rfl | ⟨i, hin, rfl⟩
            · exact cells_ne hw7.p k13 (by decide)
            · exact cells_ne hw7.g k13 (by decide)
            · exact cells_ne (hw7.r i hin) k13 (by decide)
          exact Below.heap_setCell _ _ _ _ hne)
        have hres : Reg7 x w b11 b12 ga gA gn gc gm sd n D b13 P G R (v9.setCell ⟨b13, 0, none⟩ (.pointer (some ⟨P, 0, none⟩))) := ⟨h4', k13', hw7', hgw, hlw, l13⟩
        replace hres := Lib.hid hres
        clear h4' k13' hw7' h4 hw7 k13 hgw hlw
        go_wp2
        refine calm_normal ?_
        go_wp2
        go_meet
        exact ⟨b13, P, G, R, rfl, hres.out⟩
    case rest =>
      clear h4
      obtain ⟨b13, P, G, R, rfl, h7⟩ := hcut
      obtain ⟨c0, c1, c2, c3, c4, c5⟩ := blk6z h7.r4.c
      have hb := Lib.hid h7.r4.b
      clear hG hAr hNw hDo h7
      have hmf : ∀ (fn : Fn) (first cap : Array Value) (w : World), (Instr.makeFunc fn first cap).run Tryz.prog w = .ok (.func fn first cap) w := fun _ _ _ _ => rfl
      go_wp2_with fail
      refine call_then (hRn.out _ _) ?_
      intro w5 hv
      replace hb := below_next hb.out hb.out.size hv
      clear hv c0 c1 c2 c3 c4 c5
      go_upto_region 9 with (fail)
      refine name_wp (fun w6 => Below w.heap.size w w6) (hb.alloc hb.size _) ?_
      clear hb
      intro w6 hb
      go_wp2
      go_ret2
      exact ⟨rfl, hb⟩
end Go.Proofs.YtebgfelbffgnbaaGreatDoor
