/-
  A message of one entry: copied, all of it.
-/
import Derived.Test.YtehjfilnfpkjkaaUpA
namespace Go.Proofs.Ytehjfilnfpkjkaa
open Go.RowKit Flow
set_option linter.unusedVariables false
set_option linter.unusedSimpArgs false

theorem owns_setU {w : World} {base g n cap size i : Nat} {e : TypeId} {xs : List Value} {v : Value} (h : w.ownsRow base e size (.slice (some ⟨g, 0, none⟩) n cap) n xs) : (w.setCell ⟨g, i, none⟩ v).ownsRow base e size (.slice (some ⟨g, 0, none⟩) n cap) n (xs.set i v) := by
  rcases h.2 with ⟨e2, _⟩ | ⟨g', cap', cur, e2, hb, hg, hnc, hcm, hcs, htake⟩
  · cases e2
  · cases e2
    refine ⟨by rw [List.length_set]; exact h.1, .inr ⟨g, cap, cur.setIfInBounds i v, rfl, hb, store1 hg, hnc, hcm, by simpa using hcs, ?_⟩⟩
    rw [Array.toList_setIfInBounds, List.take_set, htake]
theorem ent20_set17 {id : List Int} {t : Int} {P S P' : Value} (h : id.length = 16) : (ent20 id t P S).set 17 P' = ent20 id t P' S := by
  unfold ent20
  rw [List.set_append_right _ _ (by rw [List.length_map, h]; decide), List.length_map, h]
  rfl
theorem ent20_set18 {id : List Int} {t : Int} {P S S' : Value} (h : id.length = 16) : (ent20 id t P S).set 18 S' = ent20 id t P S' := by
  unfold ent20
  rw [List.set_append_right _ _ (by rw [List.length_map, h]; decide), List.length_map, h]
  rfl
theorem owns_otherU {w : World} {base n size q i : Nat} {e : TypeId} {v u : Value} {xs : List Value} (h : w.ownsRow base e size v n xs) (hne : v.ownBlock ≠ some q) : (w.setCell ⟨q, i, none⟩ u).ownsRow base e size v n xs :=
  h.kept (row := some q) ⟨rfl, rfl, rfl, by simp [World.setCell], fun b hb hn => Below.heap_setCell _ _ _ _ (fun e => hn (by rw [show b = q from e]))⟩ (.inr hne)
theorem ent_cellsU {w : World} {q : Nat} {id : List Int} {t : Int} {P S : Value} (h16 : id.length = 16) (h : w.rangeAt q 0 (ent20 id t P S)) : w.cell? ⟨q, 16, none⟩ = some (.int .u64 t) ∧ w.cell? ⟨q, 17, none⟩ = some P ∧ w.cell? ⟨q, 18, none⟩ = some S ∧ w.cell? ⟨q, 19, none⟩ = some (.int .i64 0) := by
  obtain ⟨a, b, c, d⟩ := ent20_at (t := t) (P := P) (S := S) h16
  have x0 := h 16 _ a
  have x1 := h 17 _ b
  have x2 := h 18 _ c
  have x3 := h 19 _ d
  simp only [Nat.zero_add] at x0 x1 x2 x3
  exact ⟨x0, x1, x2, x3⟩
theorem owns_frozenU {w : World} {base g n cap size i : Nat} {e : TypeId} {xs : List Value} (h : w.ownsRow base e size (.slice (some ⟨g, 0, none⟩) n cap) n xs) : w.frozen? ⟨g, i, none⟩ = false := by
  rcases h.2 with ⟨e2, _⟩ | ⟨g', cap', cur, e2, hb, hg, _⟩
  · cases e2
  · cases e2
    simp [World.frozen?, hg]
theorem name_any {p : World → Prop} {W : World} (F : World → Prop) (h : F W) (k : ∀ w, F w → p w) : p W := k W h
/-- How the copy stands amid the loop. -/
structure Mid (q g c2 qw : Nat) (id : List Int) (t : Int) (P S : Value) (w0 w : World) : Prop where
  below : Below qw w0 w
  kq : w.heap[q]? = some (.cells (up22 (.slice (some ⟨g, 0, none⟩) 1 c2)).toArray 27 (0, 0))
  kr : w.heap[q + 1]? = some (.cells zup.toArray 27 (0, 0))
  row : w.ownsRow (q + 2) 44 20 (.slice (some ⟨g, 0, none⟩) 1 c2) 1 (ent20 id t P S)
theorem Mid.up {q g c2 qw : Nat} {id : List Int} {t : Int} {P S : Value} {w0 w w' : World} (h : Mid q g c2 qw id t P S w0 w) (hs : qw ≤ w.heap.size) (hb : Below w.heap.size w w') : Mid q g c2 qw id t P S w0 w' :=
  ⟨below_next h.below hs hb, keeps hb h.kq, keeps hb h.kr, owns_upU h.row hb⟩
def FinU (q g c2 : Nat) (id : List Int) (t : Int) (pn sn : Nat) (ps ss : List Int) (w0 w : World) : Prop :=
  ∃ PA pc SA sc, Mid q g c2 q id t (.slice PA pn pc) (.slice SA sn sc) w0 w ∧ w.ownsRow (q + 2) 5 1 (.slice PA pn pc) pn (ps.map (Value.int .u8)) ∧ w.ownsRow (q + 2) 5 1 (.slice SA sn sc) sn (ss.map (Value.int .u8)) ∧ ∀ b, (Value.slice PA pn pc).ownBlock = some b → (Value.slice SA sn sc).ownBlock ≠ some b
set_option maxRecDepth 20000 in
set_option maxHeartbeats 8000000 in
theorem mclone_ok (A PA SA : Option Addr) (c pc sc : Nat) (id : List Int) (h16 : id.length = 16) (t : Int) (ps ss : List Int) (hp : ps.length ≤ 65536) (hs : ss.length ≤ 65536) (w : World)
    (hE : News w A 1 c 20 (ent20 id t (.slice PA ps.length pc) (.slice SA ss.length sc))) (hP : News w PA ps.length pc 1 (ps.map (Value.int .u8))) (hS : News w SA ss.length sc 1 (ss.map (Value.int .u8))) :
    Calls Try.prog 13 #[.agg (up22 (.slice A 1 c)).toArray] w fun e w' => ∃ m : Mg, e = .returned (.agg (up22 m.val).toArray) ∧ Below w.heap.size w w' ∧ MgOk w.heap.size w' m id t ps ss := by
  have hec := Lib.hid (fun w h => eclone_news A 1 c (ent20 id t (.slice PA ps.length pc) (.slice SA ss.length sc)) ent20_one (by decide) w h)
  have hpc := Lib.hid (fun w h => bclone_news PA ps.length pc (ps.map (Value.int .u8)) (fun u hu => by obtain ⟨x, _, rfl⟩ := List.mem_map.1 hu; rfl) (by omega) w h)
  have hsc := Lib.hid (fun w h => bclone_news SA ss.length sc (ss.map (Value.int .u8)) (fun u hu => by obtain ⟨x, _, rfl⟩ := List.mem_map.1 hu; rfl) (by omega) w h)
  unfold CloneOut at hec hpc hsc
  obtain ⟨pn, hpn⟩ : ∃ pn, ps.length = pn := ⟨_, rfl⟩
  obtain ⟨sn, hsn⟩ : ∃ sn, ss.length = sn := ⟨_, rfl⟩
  rw [hpn] at hec hpc hP hE
  rw [hsn] at hec hsc hS hE
  replace hpn := Lib.hid hpn
  replace hsn := Lib.hid hsn
  replace h16 := Lib.hid h16
  clear hp hs
  go_enter Try.func13, Try.ntmps13
  go_upto_region 1 with (fail)
  refine name_wp (fun w1 => Below w.heap.size w w1 ∧ w1.heap.size = w.heap.size + 2 ∧ w1.heap[w.heap.size]? = some (.cells (up22 (.slice A 1 c)).toArray 27 (0, 0)) ∧ w1.heap[w.heap.size + 1]? = some (.cells zup.toArray 27 (0, 0)))
    ⟨((Below.refl _ _).alloc (Nat.le_refl _) _).alloc (by simp) _, by simp, alloc_keeps (alloc_at rfl), alloc_at (by simp)⟩ ?_
  rintro w1 ⟨hb, hsz, k0, k1⟩
  replace hE := Lib.hid (hE.up hb)
  replace hP := Lib.hid hP
  replace hS := Lib.hid hS
  obtain ⟨q, hq⟩ : ∃ q, w.heap.size = q := ⟨_, rfl⟩
  rw [hq] at hsz k0 k1 hb ⊢
  replace hq := Lib.hid hq
  replace hsz := Lib.hid hsz
  obtain ⟨c21, f21⟩ := up_cell k0
  go_wp2_with fail
  refine (hec.out _ hE.out).mono ?_
  rintro e w2 ⟨A2, c2, rfl, hv, hrow⟩
  obtain ⟨g, rfl⟩ : ∃ g, A2 = some ⟨g, 0, none⟩ := by
    rcases hrow.2 with ⟨e2, h0⟩ | ⟨g, cap, cur, e2, _⟩
    · cases h0
    · cases e2
      exact ⟨g, rfl⟩
  rw [hsz.out] at hrow
  replace hb := below_next hb (by have := hsz.out; omega) hv
  replace k0 := keeps hv k0
  replace k1 := keeps hv k1
  clear hv c21 f21 hec hE
  obtain ⟨c21, f21⟩ := up_cell k0
  go_upto_region 2 with (fail)
  have hgq : g ≠ q ∧ g ≠ q + 1 := by have := (hrow.lt g rfl).1; omega
  have hMid : Mid q g c2 q id t (.slice PA pn pc) (.slice SA sn sc) w (w2.setCell ⟨q, 21, none⟩ (.slice (some ⟨g, 0, none⟩) 1 c2)) :=
    ⟨hb.setCell (p := ⟨q, 21, none⟩) (Nat.le_refl _) _, (store1 (o := 21) (v := .slice (some ⟨g, 0, none⟩) 1 c2) k0).trans rfl, store_far k1 (by simp), owns_otherU hrow (fun e => hgq.1 (Option.some.inj e))⟩
  refine name_wp (fun w3 => Mid q g c2 q id t (.slice PA pn pc) (.slice SA sn sc) w w3) hMid ?_
  clear hMid k0 k1 hb hrow c21 f21 hsz
  rintro w3 hM
  obtain ⟨c21, f21⟩ := up_cell hM.kq
  go_wp2
  clear c21 f21
  go_loopw [12] (fun i wr => (i = .int .i64 0 ∧ Mid q g c2 q id t (.slice PA pn pc) (.slice SA sn sc) w wr) ∨ (i = .int .i64 1 ∧ FinU q g c2 id t pn sn ps ss w wr)) (fun i _ => 1 - (intOf i).toNat)
  case atStart => exact .inl ⟨rfl, hM⟩
  case round =>
    clear hM
    rcases hrel with ⟨rfl, hM⟩ | ⟨rfl, hF⟩
    · have hr := owns_ent hM.row
      have hi20 : ((Try.prog).info? 44).map (·.size) = some (ent20 id t (.slice PA pn pc) (.slice SA sn sc)).length := by rw [ent20_len h16.out]; kernel_rfl
      have hz20 : entz.length = (ent20 id t (.slice PA pn pc) (.slice SA sn sc)).length := by rw [ent20_len h16.out]; rfl
      have hone := Lib.hid (@ent20_one id t PA SA pn pc sn sc)
      obtain ⟨es, hes⟩ : ∃ es, ent20 id t (.slice PA pn pc) (.slice SA sn sc) = es := ⟨_, rfl⟩
      rw [hes] at hr hi20 hz20 hone
      replace hes := Lib.hid hes
      replace hM := Lib.hid hM
      go_upto_region 5 with (first
        | (refine list_load_mid _ _ _ 0 _ _ rfl rfl rfl hr Try.underlying44 rfl hi20 ?_)
        | (refine list_store_whole _ _ _ _ es entz 44 rfl rfl rfl rfl (alloc_at rfl) hz20 hi20 hone.out ?_; intro w5 hbut ks; have hv := hbut.below ((Below.refl wr.heap.size wr).alloc (Nat.le_refl _) _) (Nat.le_refl _) (by simp)))
      have hqx : q + 2 ≤ wr.heap.size := by have := lt_of_get hM.out.kr; omega
      obtain ⟨qx, hqx0⟩ : ∃ qx, wr.heap.size = qx := ⟨_, rfl⟩
      rw [hqx0] at ks hqx ⊢
      replace hM := hM.out
      have hgx : g < qx := by rw [← hqx0]; exact (hM.row.lt g rfl).2
      replace hM := hM.up (by have := lt_of_get hM.kq; omega) hv
      clear hv
      clear hbut hr hqx0 hone hz20 hi20
      rw [← hes.out] at ks
      rw [put_noneU]
      obtain ⟨c21, f21⟩ := up_cell hM.kq
      obtain ⟨_, x17, x18, _⟩ := ent_cellsU h16.out (At0.of_block ks)
      refine segS_start (gb := fun _ => True) 6 (by kernel_rfl) (by decide) ?_
      intro v0 hv
      replace c21 := (hv.cell (World.block_lt_of_cell? _ _ c21)).trans c21
      replace x17 := (hv.cell (World.block_lt_of_cell? _ _ x17)).trans x17
      replace x18 := (hv.cell (World.block_lt_of_cell? _ _ x18)).trans x18
      try replace hp2 := owns_upU hp2 hv
      replace ks := keeps hv ks
      replace hM := hM.up (by have := lt_of_get hM.kq; omega) hv
      clear hv
      refine segS_batch 1 [0, 1, 2, 3, 4] (by kernel_rfl) rfl (by kernel_rfl) (by kernel_rfl) (by kernel_rfl) ?_
      apply Exists.intro
      refine ⟨fun ι _ φ hφ => ?_, fun v1 hv => ?_⟩
      · have d0 := fun i => (World.cell?_of_block ((hφ.old i).block _ (World.block_lt_of_cell? _ _ c21) trivial)).trans c21
        have d1 := fun i => (World.cell?_of_block ((hφ.old i).block _ (World.block_lt_of_cell? _ _ x17) trivial)).trans x17
        have d2 := fun i => (World.cell?_of_block ((hφ.old i).block _ (World.block_lt_of_cell? _ _ x18) trivial)).trans x18
        repeat (refine pick_step rfl ?_; go_big_quiet_step (fail))
        exact pick_end
      clear c21 f21 x17 x18
      try replace hp2 := owns_upU hp2 hv
      replace ks := keeps hv ks
      replace hM := hM.up (by have := lt_of_get hM.kq; omega) hv
      clear hv
      refine segS_one 5 _ (by decide) rfl (by kernel_rfl) ?_
      intro v2 K hv hK
      try replace hp2 := owns_upU hp2 hv
      replace ks := keeps hv ks
      replace hM := hM.up (by have := lt_of_get hM.kq; omega) hv
      clear hv
      replace hK := Lib.hid hK
      go_simp
      refine (hpc.out _ (hP.out.up (by rw [hq.out]; exact hM.below))).mono ?_
      rintro e v3 ⟨PA2, p2, rfl, hv, hown⟩
      refine hK.out _ _ (HeldS.of_below hv) ?_
      clear hK K
      have hnew : ∀ b, (Value.slice PA2 _ p2).ownBlock = some b → v2.heap.size ≤ b := fun b hb => (hown.lt b hb).1
      have hq2 : q + 2 ≤ v2.heap.size := by have := lt_of_get hM.kr; omega
      have hg2 : g < v2.heap.size := (hM.row.lt g rfl).2
      have hx2 : qx < v2.heap.size := lt_of_get ks
      try (have hpl : ∀ b, (Value.slice PA2 pn p2).ownBlock = some b → b < v2.heap.size := fun b hb => (hp2.lt b hb).2)
      try replace hp2 := owns_upU hp2 hv
      replace ks := keeps hv ks
      replace hM := hM.up (by have := lt_of_get hM.kq; omega) hv
      clear hv
      have hp2 := owns_mono hown (show q + 2 ≤ v2.heap.size by omega)
      clear hown
      refine segS_tail (by kernel_rfl) ?_
      intro v4 hv
      replace ks := keeps hv ks
      try replace hs2 := owns_upU hs2 hv
      replace hp2 := owns_upU hp2 hv
      replace hM := hM.up (by have := lt_of_get hM.kq; omega) hv
      clear hv
      simp only [List.drop_succ_cons, List.drop_zero]
      obtain ⟨_, y17, y18, _⟩ := ent_cellsU h16.out (owns_ent hM.row)
      have fy17 := owns_frozenU (i := 17) hM.row
      have fy18 := owns_frozenU (i := 18) hM.row
      go_wp2
      refine calm_normal ?_
      have hgq2 : g ≠ qx := Nat.ne_of_lt hgx
      have hPg : (Value.slice PA2 pn p2).ownBlock ≠ some g := fun e => by have := hnew _ e; omega
      refine name_any (p := fun w => Exit.then _ _ Exit.normal _ w) (fun wA => Mid q g c2 q id t (.slice PA2 pn p2) (.slice SA sn sc) w wA ∧ wA.heap[qx]? = some (.cells (ent20 id t (.slice PA pn pc) (.slice SA sn sc)).toArray 44 (0, 0)) ∧ wA.ownsRow (q + 2) 5 1 (.slice PA2 pn p2) pn (ps.map (Value.int .u8)))
        ⟨⟨hM.below.setCell (p := ⟨g, 17, none⟩) (show q ≤ g by have := (hM.row.lt g rfl).1; omega) _, store_far hM.kq (Ne.symm hgq.1), store_far hM.kr (Ne.symm hgq.2), (ent20_set17 (P' := .slice PA2 pn p2) h16.out) ▸ owns_setU (i := 17) (v := .slice PA2 pn p2) hM.row⟩, store_far ks (Ne.symm hgq2), owns_otherU hp2 hPg⟩ ?_
      clear hM ks hp2 y17 y18 fy17 fy18 hnew hg2 hx2
      rintro wA ⟨hM, ks, hp2⟩
      show Exit.then _ _ Exit.normal _ wA
      go_wp2
      obtain ⟨c21, f21⟩ := up_cell hM.kq
      obtain ⟨_, x17, x18, _⟩ := ent_cellsU h16.out (At0.of_block ks)
      refine segS_start (gb := fun _ => True) 6 (by kernel_rfl) (by decide) ?_
      intro v0 hv
      replace c21 := (hv.cell (World.block_lt_of_cell? _ _ c21)).trans c21
      replace x17 := (hv.cell (World.block_lt_of_cell? _ _ x17)).trans x17
      replace x18 := (hv.cell (World.block_lt_of_cell? _ _ x18)).trans x18
      try replace hp2 := owns_upU hp2 hv
      replace ks := keeps hv ks
      replace hM := hM.up (by have := lt_of_get hM.kq; omega) hv
      clear hv
      refine segS_batch 1 [0, 1, 2, 3, 4] (by kernel_rfl) rfl (by kernel_rfl) (by kernel_rfl) (by kernel_rfl) ?_
      apply Exists.intro
      refine ⟨fun ι _ φ hφ => ?_, fun v1 hv => ?_⟩
      · have d0 := fun i => (World.cell?_of_block ((hφ.old i).block _ (World.block_lt_of_cell? _ _ c21) trivial)).trans c21
        have d1 := fun i => (World.cell?_of_block ((hφ.old i).block _ (World.block_lt_of_cell? _ _ x17) trivial)).trans x17
        have d2 := fun i => (World.cell?_of_block ((hφ.old i).block _ (World.block_lt_of_cell? _ _ x18) trivial)).trans x18
        repeat (refine pick_step rfl ?_; go_big_quiet_step (fail))
        exact pick_end
      clear c21 f21 x17 x18
      try replace hp2 := owns_upU hp2 hv
      replace ks := keeps hv ks
      replace hM := hM.up (by have := lt_of_get hM.kq; omega) hv
      clear hv
      refine segS_one 5 _ (by decide) rfl (by kernel_rfl) ?_
      intro v2 K hv hK
      try replace hp2 := owns_upU hp2 hv
      replace ks := keeps hv ks
      replace hM := hM.up (by have := lt_of_get hM.kq; omega) hv
      clear hv
      replace hK := Lib.hid hK
      go_simp
      refine (hsc.out _ (hS.out.up (by rw [hq.out]; exact hM.below))).mono ?_
      rintro e v3 ⟨SA2, s2, rfl, hv, hown⟩
      refine hK.out _ _ (HeldS.of_below hv) ?_
      clear hK K
      have hnew : ∀ b, (Value.slice SA2 _ s2).ownBlock = some b → v2.heap.size ≤ b := fun b hb => (hown.lt b hb).1
      have hq2 : q + 2 ≤ v2.heap.size := by have := lt_of_get hM.kr; omega
      have hg2 : g < v2.heap.size := (hM.row.lt g rfl).2
      have hx2 : qx < v2.heap.size := lt_of_get ks
      try (have hpl : ∀ b, (Value.slice PA2 pn p2).ownBlock = some b → b < v2.heap.size := fun b hb => (hp2.lt b hb).2)
      try replace hp2 := owns_upU hp2 hv
      replace ks := keeps hv ks
      replace hM := hM.up (by have := lt_of_get hM.kq; omega) hv
      clear hv
      have hs2 := owns_mono hown (show q + 2 ≤ v2.heap.size by omega)
      clear hown
      refine segS_tail (by kernel_rfl) ?_
      intro v4 hv
      replace ks := keeps hv ks
      try replace hs2 := owns_upU hs2 hv
      replace hp2 := owns_upU hp2 hv
      replace hM := hM.up (by have := lt_of_get hM.kq; omega) hv
      clear hv
      simp only [List.drop_succ_cons, List.drop_zero]
      obtain ⟨_, y17, y18, _⟩ := ent_cellsU h16.out (owns_ent hM.row)
      have fy17 := owns_frozenU (i := 17) hM.row
      have fy18 := owns_frozenU (i := 18) hM.row
      go_wp2
      refine calm_normal ?_
      replace hp2 := hp2
      have hSg : (Value.slice SA2 sn s2).ownBlock ≠ some g := fun e => by have := hnew _ e; omega
      have hPg2 : (Value.slice PA2 pn p2).ownBlock ≠ some g := hPg
      have hPS : ∀ b, (Value.slice PA2 pn p2).ownBlock = some b → (Value.slice SA2 sn s2).ownBlock ≠ some b := fun b hb e => by
        have h1 := hnew _ e
        have h2 := hpl b hb
        omega
      refine name_any (p := fun w => (_ : Exit → Act → World → Prop) Exit.normal _ w) (fun wA => FinU q g c2 id t pn sn ps ss w wA)
        ⟨PA2, p2, SA2, s2, ⟨hM.below.setCell (p := ⟨g, 18, none⟩) (show q ≤ g by have := (hM.row.lt g rfl).1; omega) _, store_far hM.kq (Ne.symm hgq.1), store_far hM.kr (Ne.symm hgq.2), (ent20_set18 (S' := .slice SA2 sn s2) h16.out) ▸ owns_setU (i := 18) (v := .slice SA2 sn s2) hM.row⟩, owns_otherU hp2 hPg2, owns_otherU hs2 hSg, hPS⟩ ?_
      clear hM ks hp2 hs2 y17 y18 fy17 fy18 hnew hg2 hx2
      rintro wB hF
      show (_ : Exit → Act → World → Prop) Exit.normal _ wB
      go_wp2
      exact ⟨.inr ⟨rfl, hF⟩, by decide⟩
    · obtain ⟨PA2, p2, SA2, s2, hM, hp2, hs2, hPS⟩ := hF
      have hme := At0.of_block hM.kq
      have hone := Lib.hid (@up22_one (some ⟨g, 0, none⟩) 1 c2)
      have hmk := Lib.hid hM.kr
      have hlr := lt_of_get hM.kr
      go_wp2_with (first
        | (refine list_load_mid _ _ _ 0 _ _ rfl rfl rfl hme Try.underlying27 rfl (by kernel_rfl) ?_)
        | (refine list_store_whole _ _ _ _ (up22 (.slice (some ⟨g, 0, none⟩) 1 c2)) zup 27 rfl rfl rfl rfl hmk.out rfl (by kernel_rfl) hone.out ?_; intro w7 hbut kres))
      have hbe := hbut.below hM.below (Nat.le_succ q) (by omega)
      have hbe2 : Below w.heap.size w w7 := by rw [hq.out]; exact hbe
      have hld := loadVar_whole (ty := 27) (cs := up22 (.slice (some ⟨g, 0, none⟩) 1 c2)) _ (At0.of_block kres) Try.underlying27 rfl (by kernel_rfl)
      have hkeep : ∀ (ty : TypeId) (size n : Nat) (v : Value) (xs : List Value), wr.ownsRow (q + 2) ty size v n xs → w7.ownsRow w.heap.size ty size v n xs := fun ty size n v xs h => by
        refine owns_mono (base := q + 2) (h.kept (row := some (q + 1)) ⟨hbut.os, hbut.tape, hbut.output, hbut.size, fun b hb hn => hbut.block b hb (fun e => hn (by rw [e]))⟩ (.inr (fun e => by have := (h.lt _ e).1; omega))) (by rw [hq.out]; omega)
      refine bodyPost_ret (v := .agg (up22 (.slice (some ⟨g, 0, none⟩) 1 c2)).toArray) (results_cell1 Try.results13 rfl hld) rfl ⟨⟨g, c2, PA2, p2, SA2, s2⟩, rfl, hbe2, ?_, ?_, ?_, ?_⟩
      · unfold Mg.ent Mg.val
        rw [hpn.out, hsn.out]
        exact hkeep _ _ _ _ _ hM.row
      · rw [hpn.out]
        exact hkeep _ _ _ _ _ hp2
      · rw [hsn.out]
        exact hkeep _ _ _ _ _ hs2
      · rw [hpn.out, hsn.out]
        exact hPS
end Go.Proofs.Ytehjfilnfpkjkaa
