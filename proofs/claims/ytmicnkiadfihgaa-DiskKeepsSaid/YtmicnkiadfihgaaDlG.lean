/-
  A disk of one file: a copy.
-/
import Derived.Test.YtmicnkiadfihgaaDlF
import Derived.Test.YtmicnkiadfihgaaSegS
namespace Go.Proofs.Ytmicnkiadfihgaa.Disk2
open Go.RowKit Flow Go.Maps
set_option linter.unusedVariables false
set_option linter.unusedSimpArgs false

theorem put_factsK {w : World} {m n : Nat} {D : DataW Value} (hm : w.ownsMap Try.prog 9 RvK m n D) (hnone : ∀ kl, Maps.has D kl = false) (hsz : Maps.size D = 0) (x : DataW Value) : Maps.has (D.put (klitK nmA) x) (klitK nmA) = true ∧ (∀ kl, Maps.has (D.put (klitK nmA) x) kl = true → kl.sameKey (klitK nmA) = true) ∧ Maps.size (D.put (klitK nmA) x) = 1 ∧ ∀ zd, (D.put (klitK nmA) x).atKey (klitK nmA) zd = x := by
  have hi := hm.isMap
  refine ⟨Maps.has_put_same hi (klit_keyK nmA) x, fun kl hk => ?_, ?_, fun zd => Maps.atKey_put_same hi (klit_keyK nmA) x zd⟩
  · by_cases e : kl = klitK nmA
    · rw [e]; exact same_selfK
    · rw [Maps.has_put_other e, hnone] at hk
      cases hk
  · rw [Maps.size_put (hm.tidy keyed_strK) x, hnone, hsz]
    rfl
theorem map_cellK {w : World} {m n : Nat} {D : DataW Value} (hm : w.ownsMap Try.prog 9 RvK m n D) : ∀ x t fr, w.heap[m]? ≠ some (.cells x t fr) := fun x t fr e => by
  obtain ⟨es, clock, hb, rest⟩ := hm
  rw [hb] at e
  cases e
def CpSt (q d2 m2 : Nat) (X : List Int) (S : Nat) (l : Bool) (w : World) : Prop :=
  (l = true → Ds0 d2 m2 0 10000 (.map []) w) ∧ (l = false → ∃ n2 f2 D2 V2, Ds1 q d2 m2 n2 f2 10000 D2 V2 X S w)
set_option maxRecDepth 20000 in
set_option maxHeartbeats 4000000 in
theorem copy_1 (B d m n f : Nat) (D : DataW Value) (V : Value) (X : List Int) (S : Nat) (hX : X.length ≤ 1000000) (w : World) (h : Ds1 B d m n f 10000 D V X S w) :
    Calls Try.prog 17 #[.pointer (some ⟨d, 0, none⟩)] w fun e w' => ∃ d2 m2 n2 f2 D2 V2, e = .returned (.pointer (some ⟨d2, 0, none⟩)) ∧ Below w.heap.size w w' ∧ Ds1 w.heap.size d2 m2 n2 f2 10000 D2 V2 X S w' := by
  obtain ⟨c0, c1⟩ := disk_cells h.kd
  have hlm := map_ltK h.hm
  obtain ⟨AV, cV, rfl⟩ := owns_slice h.row
  have hone : ∀ u ∈ X.map (Value.int .u8), u.oneCell' = true := fun u hu => by obtain ⟨x, _, rfl⟩ := List.mem_map.1 hu; rfl
  have hcl := Lib.hid (fun w h => sclone_news AV X.length cV (X.map (Value.int .u8)) hone (by omega) w h)
  clear hone
  have hNe := Lib.hid (fun w => new_100 w)
  have hhas := Lib.hid h.has
  replace h := Lib.hid h
  go_enter Try.func17, Try.ntmps17
  go_wp2_with (fail)
  refine (hNe.out _).mono ?_
  clear hNe
  rintro e w1 ⟨d2, m2, rfl, hv, hm2, hd2, hz⟩
  replace h := Lib.hid (h.out.up hv)
  have hb := Lib.hid hv
  have hs := hv.size
  obtain ⟨c0, c1⟩ := disk_cells h.out.kd
  have hm := h.out.hm
  have hlm2 := map_ltK hz.hm
  replace hz := Lib.hid hz
  clear hv
  go_wp2_with (first
    | (at_range; refine wpList_range_own _ rfl _ 51 rfl 9 54 keyed_strK Try.underlying51 RvK m n D rfl hm ?_; intro w2 hrg0 hg0 hs0)
    | go_in)
  have hv : Below w1.heap.size w1 w2 := ⟨hg0.os, hg0.tape, hg0.output, hg0.size, fun b hb => hg0.block b hb (fun e => by cases e)⟩
  replace h := Lib.hid (h.out.up hv)
  replace hz := Lib.hid (hz.out.up hv)
  replace hb := Lib.hid (below_next hb.out hs hv)
  have hs2 := Nat.le_trans hs hv.size
  clear hm hg0 hs0 hv c0 c1
  go_frame
  go_loopw [4, 5] (fun u u2 wr => ∃ (left : Lit → Bool) (cnt : Nat), wr.ranges Try.prog 9 RvK m w1.heap.size n D left cnt ∧ Hid (∀ kl, left kl = true → Maps.has D kl = true) ∧ Hid (Below w.heap.size w wr) ∧ w.heap.size ≤ wr.heap.size ∧ Hid (Ds1 B d m n f 10000 D (.slice AV X.length cV) X S wr) ∧ Hid (CpSt w.heap.size d2 m2 X S (left (klitK nmA)) wr)) (fun _ _ wr => wr.rangeLeft m w1.heap.size)
  case atStart => exact ⟨_, _, hrg0, Lib.hid (fun kl h => h), hb, hs2, h, Lib.hid ⟨fun _ => hz.out, fun e => by rw [hhas.out] at e; cases e⟩⟩
  case round =>
    obtain ⟨left, cnt, hrg, hl, hbr, hsr, hsrc, hst⟩ := hrel
    clear h hb hz hs2
    go_wp2_with (first
      | (at_next; refine wpList_next_ranges _ rfl _ rfl 9 keyed_strK RvK Value.string (fun v : Value => v) inv_strK (fun v y _ => ⟨v, rfl⟩) m w1.heap.size n D _ _ rfl hrg ?_ ?_)
      | go_in)
    · intro _ hl0
      obtain ⟨n2, f2, D2, V2, hd⟩ := hst.out.2 (by rw [hl0])
      clear hst hl0 hl hsrc
      replace hd := Lib.hid hd
      go_wp2
      go_ret
      exact ⟨d2, m2, n2, f2, D2, V2, rfl, hbr.out, hd.out⟩
    · intro x c kl y ps w3 cnt1 hk hlx hR hat hrg1 hlt hg1 hs3 hen
      obtain ⟨rfl, rfl⟩ := entry_1 hsrc.out (hl.out _ hlx) hR hat
      have hz0 := hst.out.1 hlx
      have hb := Lib.hid (hbr.out.grown hg1 hsr (fun j hj => by cases hj; exact hs))
      have h := Lib.hid (hsrc.out.walk hg1 hrg.ne (range_cellK hrg))
      have hrc := range_cellK hrg
      have hz := Lib.hid (show Ds0 d2 m2 0 10000 (.map []) w3 from ⟨(hg1.block d2 (lt_of_get hz0.kd) (fun e => by cases e; exact hrc _ _ _ hz0.kd)).trans hz0.kd, map_keepK hz0.hm (hg1.block m2 (map_ltK hz0.hm) (fun e => by cases e; omega)), hz0.none, hz0.sz⟩)
      have hr1 := Lib.hid hrg.left_eq
      have hl2 := Lib.hid hl.out
      have hsz : w.heap.size ≤ w3.heap.size := Nat.le_trans hsr hg1.size
      have hlq : w1.heap.size < w3.heap.size := hrg1.lt
      clear hst hbr hsrc hR hat hlx hg1 hrg hl hz0 hrc
      replace hk := Lib.hid hk
      replace hrg := Lib.hid hrg1
      clear hrg1
      replace hlt := Lib.hid hlt
      replace hs3 := Lib.hid hs3
      have hs := hsz
      obtain ⟨y0, y1, -, -⟩ := file_cells h.out.kf
      obtain ⟨e0, -⟩ := disk_cells hz.out.kd
      go_upto_region 7 with (fail)
      refine segS_start (gb := fun _ => True) 16 (by kernel_rfl) (by decide) ?_
      intro v0 hv
      replace h := Lib.hid (h.out.up hv)
      replace hz := Lib.hid (hz.out.up hv)
      replace hrg := Lib.hid (hrg.out.kept (Below.grownK hv) (by simp) (by simp))
      replace hb := Lib.hid (below_next hb.out hs hv)
      replace hs := Nat.le_trans hs hv.size
      replace hlq := Nat.lt_of_lt_of_le hlq hv.size
      obtain ⟨y0, y1, -, -⟩ := file_cells h.out.kf
      obtain ⟨e0, -⟩ := disk_cells hz.out.kd
      clear hv
      refine segS_batch 3 [0, 1, 2, 3, 4, 5, 6, 7, 8, 10, 11, 12, 13] (by kernel_rfl) rfl (by kernel_rfl) (by kernel_rfl) (by kernel_rfl) ?_
      apply Exists.intro
      refine ⟨fun ι _ φ hφ => ?_, fun v1 hv => ?_⟩
      · have x0 := fun i => (World.cell?_of_block ((hφ.old i).block _ (World.block_lt_of_cell? _ _ y0) trivial)).trans y0
        have x1 := fun i => (World.cell?_of_block ((hφ.old i).block _ (World.block_lt_of_cell? _ _ y1) trivial)).trans y1
        have x2 := fun i => (World.cell?_of_block ((hφ.old i).block _ (World.block_lt_of_cell? _ _ e0) trivial)).trans e0
        repeat (refine pick_step rfl ?_; go_big_quiet_step (fail))
        exact pick_end
      replace h := Lib.hid (h.out.up hv)
      replace hz := Lib.hid (hz.out.up hv)
      replace hrg := Lib.hid (hrg.out.kept (Below.grownK hv) (by simp) (by simp))
      replace hb := Lib.hid (below_next hb.out hs hv)
      replace hs := Nat.le_trans hs hv.size
      replace hlq := Nat.lt_of_lt_of_le hlq hv.size
      clear hv y0 y1 e0
      refine segS_one 9 _ (by decide) rfl (by kernel_rfl) ?_
      intro v2 K hv hK
      replace h := Lib.hid (h.out.up hv)
      replace hz := Lib.hid (hz.out.up hv)
      replace hrg := Lib.hid (hrg.out.kept (Below.grownK hv) (by simp) (by simp))
      replace hb := Lib.hid (below_next hb.out hs hv)
      replace hs := Nat.le_trans hs hv.size
      replace hlq := Nat.lt_of_lt_of_le hlq hv.size
      clear hv
      replace hK := Lib.hid hK
      go_simp
      refine (hcl.out _ (owns_newsU h.out.row)).mono ?_
      rintro e v3 ⟨A2, c2, rfl, hv, hrow⟩
      refine hK.out _ _ (HeldS.of_below hv) ?_
      clear hK K
      have hR := Lib.hid (row_leK hrow hs)
      clear hrow
      replace h := Lib.hid (h.out.up hv)
      replace hz := Lib.hid (hz.out.up hv)
      replace hrg := Lib.hid (hrg.out.kept (Below.grownK hv) (by simp) (by simp))
      replace hb := Lib.hid (below_next hb.out hs hv)
      replace hs := Nat.le_trans hs hv.size
      replace hlq := Nat.lt_of_lt_of_le hlq hv.size
      clear hv
      refine segS_batch 1 [14] (by kernel_rfl) rfl (by kernel_rfl) (by kernel_rfl) (by kernel_rfl) ?_
      apply Exists.intro
      refine ⟨fun ι _ φ hφ => ?_, fun v4 hv => ?_⟩
      · repeat (refine pick_step rfl ?_; go_big_quiet_step (fail))
        exact pick_end
      replace h := Lib.hid (h.out.up hv)
      replace hz := Lib.hid (hz.out.up hv)
      replace hrg := Lib.hid (hrg.out.kept (Below.grownK hv) (by simp) (by simp))
      replace hb := Lib.hid (below_next hb.out hs hv)
      replace hs := Nat.le_trans hs hv.size
      replace hlq := Nat.lt_of_lt_of_le hlq hv.size
      replace hR := Lib.hid (owns_upU hR.out hv)
      clear hv
      refine segS_one 15 _ (by decide) rfl (by kernel_rfl) ?_
      intro v5 K hv hK
      replace h := Lib.hid (h.out.up hv)
      replace hz := Lib.hid (hz.out.up hv)
      replace hrg := Lib.hid (hrg.out.kept (Below.grownK hv) (by simp) (by simp))
      replace hb := Lib.hid (below_next hb.out hs hv)
      replace hs := Nat.le_trans hs hv.size
      replace hlq := Nat.lt_of_lt_of_le hlq hv.size
      replace hR := Lib.hid (owns_upU hR.out hv)
      clear hv
      replace hK := Lib.hid hK
      go_simp
      have hv := (Below.refl v5.heap.size v5).alloc (Nat.le_refl _) (.cells #[.slice A2 X.length c2, .int .i64 (S : Int)] 56 (0, 0))
      refine hK.out _ (v5.alloc (.cells #[.slice A2 X.length c2, .int .i64 (S : Int)] 56 (0, 0))) (HeldS.of_below hv) ?_
      clear hK K
      have kf2 := alloc_at (w := v5) (k := v5.heap.size) (o := .cells #[.slice A2 X.length c2, .int .i64 (S : Int)] 56 (0, 0)) rfl
      have hqf := hs
      replace h := Lib.hid (h.out.up hv)
      replace hz := Lib.hid (hz.out.up hv)
      replace hrg := Lib.hid (hrg.out.kept (Below.grownK hv) (by simp) (by simp))
      replace hb := Lib.hid (below_next hb.out hs hv)
      replace hs := Nat.le_trans hs hv.size
      replace hlq := Nat.lt_of_lt_of_le hlq hv.size
      replace hR := Lib.hid (owns_upU hR.out hv)
      clear hv
      generalize v5.alloc (.cells #[.slice A2 X.length c2, .int .i64 (S : Int)] 56 (0, 0)) = v6 at *
      generalize v5.heap.size = f2 at *
      refine segS_tail (by kernel_rfl) ?_
      intro v7 hv
      replace kf2 := keeps hv kf2
      replace h := Lib.hid (h.out.up hv)
      replace hz := Lib.hid (hz.out.up hv)
      replace hrg := Lib.hid (hrg.out.kept (Below.grownK hv) (by simp) (by simp))
      replace hb := Lib.hid (below_next hb.out hs hv)
      replace hs := Nat.le_trans hs hv.size
      replace hlq := Nat.lt_of_lt_of_le hlq hv.size
      replace hR := Lib.hid (owns_upU hR.out hv)
      clear hv
      have hmz := hz.out.hm
      simp only [List.drop_succ_cons, List.drop_zero]
      go_wp2_with (first
        | (at_mapUpdate; refine wpList_mapUpdate_own _ rfl _ _ _ 51 rfl 9 54 keyed_strK Try.underlying51 RvK m2 0 (.map []) rfl hmz (by decide) _ _ _ rfl rfl hk.out (.held (.pointer (some ⟨f2, 0, none⟩))) [] rfl ?_; intro v8 hm8 hg8)
        | go_in)
      refine calm_normal ?_
      have hmc := map_cellK hmz
      have hmm : m ≠ m2 := by omega
      have hrm : w1.heap.size ≠ m2 := by omega
      have hrg8 := Lib.hid (hrg.out.kept hg8 (fun e => hmm (Option.some.inj e)) (fun e => hrm (Option.some.inj e)))
      have hb8 := Lib.hid (hb.out.grown hg8 hs (fun j hj => by cases hj; exact hm2))
      have h8 := Lib.hid (h.out.walk hg8 (fun e => hmm e.symm) hmc)
      have hs8 := Nat.le_trans hs hg8.size
      have hne : ∀ {k : Nat} {y : Array Value} {t : TypeId} {fr : Nat × Nat}, v7.heap[k]? = some (.cells y t fr) → v8.heap[k]? = some (.cells y t fr) := fun {k y t fr} hk => (hg8.block k (lt_of_get hk) (fun e => by cases e; exact hmc _ _ _ hk)).trans hk
      obtain ⟨p1, p2, p3, p4⟩ := put_factsK hmz hz.out.none hz.out.sz (.held (.pointer (some ⟨f2, 0, none⟩)))
      have hR8 : v8.ownsRow w.heap.size 5 1 (.slice A2 X.length c2) X.length (X.map (Value.int .u8)) := hR.out.kept hg8 (by
        rcases hR.out.2 with ⟨e2, _⟩ | ⟨g, cap, cur, e2, _, hg2, _⟩
        · exact .inl (by rw [e2]; rfl)
        · exact .inr (fun e => by rw [e2] at e; cases e; exact hmc _ _ _ hg2))
      have hnew : Ds1 w.heap.size d2 m2 (0 + 1) f2 10000 _ (.slice A2 X.length c2) X S v8 := ⟨hne hz.out.kd, hm8, p1, p2, p3, p4, hne kf2, hR8, hd2, hm2, hqf⟩
      replace hnew := Lib.hid hnew
      clear hR8 p1 p2 p3 p4 hne hg8 hm8 hmz hz h hb hrg hR hmc kf2
      go_wp2
      go_roundw
      case rel =>
        refine ⟨_, cnt1, hrg8.out, Lib.hid (fun kl h => hl2.out kl (by simp only [Bool.and_eq_true] at h; exact h.1)), hb8, hs8, h8, Lib.hid ⟨fun e => ?_, fun _ => ⟨_, f2, _, _, hnew.out⟩⟩⟩
        rw [same_selfK] at e
        simp at e
      case measure => rw [hrg8.out.left_eq, hr1.out]; exact hlt.out
set_option maxRecDepth 20000 in
theorem loose_1 (B d m n f : Nat) (lim : Int) (D : DataW Value) (V : Value) (X : List Int) (S : Nat) (hS : S ≤ X.length) (hX : X.length ≤ 1000000) (w : World) (h : Ds1 B d m n f lim D V X S w) :
    Calls Try.prog 14 #[.pointer (some ⟨d, 0, none⟩), .string nmA] w fun e w' => e = .returned (.int .i64 ((X.length - S : Nat) : Int)) ∧ Below w.heap.size w w' := by
  have hFi := Lib.hid (find_1 B d m n f lim D V X S w h)
  have hLo := Lib.hid (fun w h => loose_ok B f V X S hS hX w h)
  obtain ⟨z, hz2⟩ : ∃ z : Int, ((X.length - S : Nat) : Int) = z := ⟨_, rfl⟩
  rw [hz2] at hLo ⊢
  clear hz2
  replace h := Lib.hid h
  obtain ⟨s, hsn⟩ : ∃ s, nmA = s := ⟨_, rfl⟩
  rw [hsn] at hFi ⊢
  clear hsn
  go_enter Try.func14, Try.ntmps14
  go_wp2_with (fail)
  refine call_then hFi.out ?_
  intro w1 hv
  replace h := Lib.hid (h.out.up hv)
  have hz := hv.size
  go_wp2_with (fail)
  refine call_then (hLo.out _ h.out.fil) ?_
  intro w2 hv2
  have hb := below_next hv hz hv2
  clear hv hv2
  go_wp2_with (fail)
  go_ret
  exact ⟨rfl, hb⟩
end Go.Proofs.Ytmicnkiadfihgaa.Disk2
