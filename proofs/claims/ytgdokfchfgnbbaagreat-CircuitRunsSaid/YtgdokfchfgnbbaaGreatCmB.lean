/-
  The gadget itself, its askings being counted.
-/
import Derived.Test.YtgdokfchfgnbbaaGreatCmA
import Derived.Test.YtgdokfchfgnbbaaGreatDJ
namespace Go.Proofs.YtgdokfchfgnbbaaGreat
open Go.RowKit Flow F
set_option linter.unusedVariables false
set_option linter.unusedSimpArgs false
attribute [local go_sem] eql_elem

/-- What the law's own function has: a count, a circuit. -/
def RunSt (pk pc : Nat) (x : Ci) (s : Nat) (own : Nat → Prop) (w : World) : Prop :=
  own = (fun b => b = pk ∨ b = pc) ∧ pk ≠ pc ∧ w.heap[pk]? = some (.cells #[.int .i64 (s : Int)] 3 (0, 0)) ∧ w.heap[pc]? = some (cobj x)
set_option maxRecDepth 20000 in
set_option maxHeartbeats 4000000 in
theorem runs_asking (x : Ci) (h : x.Good) (pk pc : Nat) : Asking 9 #[.pointer (some ⟨pk, 0, none⟩), .pointer (some ⟨pc, 0, none⟩)] (RunSt pk pc x) (fun s _ => s + 1) (fun _ xs => gadV x xs) (fun _ xs => gadE x xs) (fun s => s < 600) where
  hen := fun args w => by simp [go_sem]
  lt := fun {s own w} h {k} hk => by
    obtain ⟨rfl, n3, k1, k2⟩ := h
    rcases hk with h | h
    · subst h; exact lt_of_get k1
    · subst h; exact lt_of_get k2
  on := fun {s own w w'} h hz hk => by
    obtain ⟨rfl, n3, k1, k2⟩ := h
    exact ⟨rfl, n3, (hk _ (.inl rfl)).trans k1, (hk _ (.inr rfl)).trans k2⟩
  bound := fun s xs => by have := gadV_in x xs; have := M_lt x.f; omega
  call := fun s own w g xs N hc hst hg hl hx hn => by
    obtain ⟨rfl, n3, k1, k2⟩ := hst
    have hgk : g ≠ pk := fun e => hn (.inl e)
    obtain ⟨z, hz⟩ : ∃ z, gadV x xs = z := ⟨_, rfl⟩
    obtain ⟨E, hE⟩ : ∃ E, gadE x xs = E := ⟨_, rfl⟩
    replace hz := Lib.hid hz
    replace hE := Lib.hid hE
    have hG := Lib.hid (fun w => gadget_any x h w)
    unfold GadOut cvl at hG
    have hlt1 := lt_of_get k1
    have hlt2 := lt_of_get k2
    have hltg := lt_of_get hg
    have hnw1 := Nat.ne_of_lt hlt1
    have hnw2 := Nat.ne_of_lt hlt2
    replace hl := Lib.hid hl
    replace hx := Lib.hid hx
    replace hlt2 := Lib.hid hlt2
    have hss := Lib.hid hc
    have j0 : (0 : Int) ≤ (s : Int) := by omega
    have j1 : (s : Int) < 600 := by omega
    clear hn hc
    go_enter Tryz.func9, Tryz.ntmps9
    go_upto_region 1 with (fail)
    refine name_wp (fun w1 => Below w.heap.size w w1 ∧ w1.heap[pk]? = some (.cells #[.int .i64 (s : Int)] 3 (0, 0)) ∧ w1.heap[pc]? = some (cobj x) ∧ Holds w1 w.heap.size 0 ∧ Row w1 g xs) ⟨(Below.refl _ _).alloc (Nat.le_refl _) _, alloc_keeps k1, alloc_keeps k2, alloc_at rfl, alloc_keeps hg⟩ ?_
    clear k1 k2 hg
    rintro w1 ⟨hb, k1, k2, kr, hg⟩
    have e0 : w1.cell? ⟨pk, 0, none⟩ = some (.int .i64 (s : Int)) := by simp [World.cell?, k1]
    have e1 : w1.frozen? ⟨pk, 0, none⟩ = false := by simp [World.frozen?, k1]
    go_upto_region 2 with (fail)
    have hk1 : (w1.setCell ⟨pk, 0, none⟩ (.int .i64 ((s : Int) + 1))).heap[pk]? = some (.cells #[.int .i64 ((s : Int) + 1)] 3 (0, 0)) := (store1 k1 (o := 0) (v := .int .i64 ((s : Int) + 1))).trans rfl
    refine name_wp (fun w1 => Moved (fun b => b = pk ∨ b = pc) (fun b => b = pk ∨ b = pc) w w1 ∧ w1.heap[pk]? = some (.cells #[.int .i64 ((s : Int) + 1)] 3 (0, 0)) ∧ w1.heap[pc]? = some (cobj x) ∧ Holds w1 w.heap.size 0 ∧ Row w1 g xs)
      ⟨(Moved.of_below hb).setOwn (p := ⟨pk, 0, none⟩) (.inl rfl) _, hk1, store_far k2 (fun e => n3 e.symm), store_far kr (fun e => hnw1 e.symm), store_far hg hgk⟩ ?_
    clear e0 e1 k1 k2 hk1 hb kr hg w1
    rintro v ⟨hm, k1, k2, kr, hg⟩
    have hb := Below.refl v.heap.size v
    obtain ⟨s1, hs1⟩ : ∃ s1 : Int, (s : Int) + 1 = s1 := ⟨_, rfl⟩
    rw [hs1] at k1
    replace hs1 := Lib.hid hs1
    replace hm := Lib.hid hm
    replace hg := Lib.hid hg
    replace k1 := Lib.hid k1
    clear j0 j1
    refine segS_start (gb := fun k => k < w.heap.size) 10 (by kernel_rfl) (by decide) ?_
    intro v0 hv
    replace hb := below_next hb hb.size hv
    replace kr := kr.up hv
    clear hv
    refine segS_batch 6 [0, 2, 3, 4] (by kernel_rfl) rfl (by kernel_rfl) (by kernel_rfl) (by kernel_rfl) ?_
    apply Exists.intro
    refine ⟨fun ι _ φ hφ => ?_, fun v1 hv => ?_⟩
    · have qd := fun i => blk6z ((hφ.old i).keeps (keeps hb k2) hlt2.out)
      have q0 := fun i => (qd i).1
      have q1 := fun i => (qd i).2.1
      have q2 := fun i => (qd i).2.2.1
      have q3 := fun i => (qd i).2.2.2.1
      have q4 := fun i => (qd i).2.2.2.2.1
      have q5 := fun i => (qd i).2.2.2.2.2
      clear qd
      repeat (refine pick_step rfl ?_; go_big_quiet_step (fail))
      exact pick_end
    replace hb := below_next hb hb.size hv
    replace kr := kr.up hv
    clear hv
    refine segS_one 1 _ (by decide) rfl (by kernel_rfl) ?_
    intro v2 K hv hK
    replace hb := below_next hb hb.size hv
    replace kr := kr.up hv
    clear hv
    replace hK := Lib.hid hK
    go_simp
    refine (hG.out _).mono ?_
    rintro e v' ⟨ga, gA, gn, gd, gc, rfl, hv, hgd⟩
    refine hK.out _ _ (HeldS.of_below hv) ?_
    clear hK K
    replace hb := below_next hb hb.size hv
    replace kr := kr.up hv
    clear hv
    replace hgd := Lib.hid hgd
    refine segS_one 5 _ (by decide) rfl (by kernel_rfl) ?_
    intro v3 K hv hK
    replace hgd := hgd.out.up hv
    replace hb := below_next hb hb.size hv
    replace kr := kr.up hv
    clear hv
    have hof := ggof_any x h ga gA gn gd gc xs N hl.out hx.out g _ hgd (hg.out.up hb)
    rw [hz.out, hE.out] at hof
    replace hof := Lib.hid hof
    replace hK := Lib.hid hK
    go_simp
    refine hof.out.mono ?_
    rintro e v' ⟨rfl, hv⟩
    refine hK.out _ _ (HeldS.of_below hv) ?_
    clear hK K hof hgd
    replace hb := below_next hb hb.size hv
    replace kr := kr.up hv
    clear hv
    refine segS_batch 2 [6, 7] (by kernel_rfl) rfl (by kernel_rfl) (by kernel_rfl) (by kernel_rfl) ?_
    apply Exists.intro
    refine ⟨fun ι _ φ hφ => ?_, fun v4 hv => ?_⟩
    · repeat (refine pick_step rfl ?_; go_big_quiet_step (fail))
      exact pick_end
    replace hb := below_next hb hb.size hv
    replace kr := kr.up hv
    clear hv
    refine segS_one 8 _ (by decide) rfl (by kernel_rfl) ?_
    intro v5 K hv hK
    replace hb := below_next hb hb.size hv
    replace kr := kr.up hv
    clear hv
    obtain ⟨t0, t1, t2, t3⟩ := blk2 kr
    replace hK := Lib.hid hK
    go_simp
    refine hK.out _ _ (HeldS.set2 (Nat.lt_irrefl _)) ?_
    clear hK K t0 t1 t2 t3
    have hm5 := ((hm.out.below hb).set (p := ⟨w.heap.size, 0, none⟩) (Nat.le_refl _) (.int .u64 (lo z))).set (p := ⟨w.heap.size, 1, none⟩) (Nat.le_refl _) (.int .u64 (hi z))
    have k15 := store2_far (u := .int .u64 (lo z)) (v := .int .u64 (hi z)) (keeps hb k1.out) hnw1
    have k25 := store2_far (u := .int .u64 (lo z)) (v := .int .u64 (hi z)) (keeps hb k2) hnw2
    have kr5 := kr.set z
    clear hm k1 k2 kr hb hg
    have hm := hm5
    have k1 := k15
    have k2 := k25
    have kr := kr5
    clear hm5 k15 k25 kr5
    refine segS_one 9 _ (by decide) rfl (by kernel_rfl) ?_
    intro v6 K hv hK
    replace hm := hm.below hv
    replace k1 := keeps hv k1
    replace k2 := keeps hv k2
    replace kr := kr.up hv
    clear hv
    replace hK := Lib.hid hK
    go_simp
    refine hK.out _ _ (HeldS.refl _ _) ?_
    clear hK K
    refine segS_done rfl (by kernel_rfl) ?_
    intro v7 hv
    replace hm := hm.below hv
    replace k1 := keeps hv k1
    replace k2 := keeps hv k2
    replace kr := kr.up hv
    clear hv
    obtain ⟨r0, r1, -, -⟩ := blk2 kr
    replace hm := Lib.hid hm
    replace k1 := Lib.hid k1
    replace k2 := Lib.hid k2
    go_wp2
    refine bodyPost_ret (v := .tuple #[.agg #[.int .u64 (lo z), .int .u64 (hi z)], .int .i64 E]) (by simp [results, Tryz.results9, go_sem, r0, r1]) rfl ⟨by rw [hz.out, hE.out], _, hm.out, rfl, n3, ?_, k2.out⟩
    have h9 := k1.out
    rw [← hs1.out] at h9
    exact h9
end Go.Proofs.YtgdokfchfgnbbaaGreat
