/-
  Letters on their way: a text that is empty, wherever it lies; the law's own list, put anew.
-/
import Derived.Test.YtjkbinpgclnedaaNetK
import Derived.Test.YtjkbinpgclnedaaNetI
import Derived.Test.YtjkbinpgclnedaaIns
import Derived.BigQuiet
import Derived.Test.YtjkbinpgclnedaaBytesArg
namespace Go.Proofs.Ytjkbinpgclnedaa
open Go.RowKit Flow
set_option linter.unusedVariables false

/-- A text, or nothing at any address. -/
def TxtX (w : World) (p : Nat) (go : Option Nat) (v : Value) (xs : List Int) : Prop := Txt w p go v xs ∨ (xs = [] ∧ ∃ ad c, v = .slice (some ad) 0 c)
theorem TxtX.moved {p : Nat} {go go' : Option Nat} {w w' : World} {v : Value} {xs : List Int} (h : TxtX w p go v xs) (hm : Moved p go w w') (hg : go' = go ∨ ∃ g, go' = some g ∧ w.heap.size ≤ g) : TxtX w' p go' v xs := h.imp (fun h => h.moved hm hg) id
theorem bclone_nought (ad : Addr) (m c : Nat) (hm : m = 0) (w : World) : Calls Try.prog 23 #[.slice (some ad) m c] w fun e w' => ∃ v', e = .returned v' ∧ Below w.heap.size w w' ∧ Fresh w.heap.size w' v' [] ∧ ∃ a n c, v' = .slice a n c := by
  obtain ⟨i0, z0, hinf, hz0, hz1, hz2, hz3⟩ := info_partsN info_byte
  have hown : (w.alloc (.cells #[] 5 (0, 0))).ownsRow w.heap.size 5 1 (.slice (some ⟨w.heap.size, 0, none⟩) 0 0) 0 [] := World.ownsRow_lit w #[] 0 (Nat.le_refl _) (by unfold maxLen; omega) rfl
  have hn : ∀ j u, (([] : List Int).map (Value.int .u8))[j]? = some u → (w.alloc (.cells #[] 5 (0, 0))).cell? (ad.add j) = some u := fun j u hj => by simp at hj
  have hone : ∀ u ∈ ([] : List Int).map (Value.int .u8), u.oneCell' = true := fun u hu => by obtain ⟨x, _, rfl⟩ := List.mem_map.1 hu; rfl
  have hlen : (([] : List Int).map (Value.int .u8)).length = m * 1 := by rw [hm]; rfl
  have hfr : ∀ w' v n, World.ownsRow w' w.heap.size 5 1 v n (([] : List Int).map (Value.int .u8)) → Fresh w.heap.size w' v [] := fun w' v n h => Fresh.of_owns h
  have hl : m ≤ 100 := by omega
  replace hn := Lib.hid hn
  replace hown := Lib.hid hown
  replace hone := Lib.hid hone
  replace hlen := Lib.hid hlen
  replace hfr := Lib.hid hfr
  replace hl := Lib.hid hl
  clear hm
  have heq : ∀ w : World, (binOp .eql 27 (.slice (some ad) m c) (.slice none 0 0)).run Try.prog w = .ok (.bool false) w := fun w => by
    simp only [binOp]
    simp [run_equal_slice_nil w 27 5 (some ad) m c Try.underlying27]
  go_enter Try.func23, Try.ntmps23
  go_wp2_with (at_builtin; refine wpList_append_own _ rfl _ _ 27 rfl w.heap.size 5 i0 z0 1 1 Try.underlying27 hinf hz0 hz1 hz2 hz3 (by decide) _ _ _ rfl hown.out ad m c (([] : List Int).map (Value.int .u8)) rfl hlen.out hn.out hone.out (by have := hl.out; unfold maxLen; omega) (by have := hl.out; omega) (by simp) ?_; intro v1 w6 hown6 hg6 hnn; have hb6 := ((Below.refl w.heap.size w).alloc (Nat.le_refl _) (.cells #[] 5 (0, 0))).grown hg6 (by simp) (fun k hk => by cases hk; exact Nat.le_refl _); clear hg6)
  rw [List.nil_append] at hown6
  go_ret
  refine ⟨_, rfl, hb6, hfr.out _ _ _ hown6, ?_⟩
  rcases hown6.2 with ⟨e, _⟩ | ⟨g, cap, cur, e, _⟩
  · exact ⟨_, _, _, e⟩
  · exact ⟨_, _, _, e⟩
theorem bclone_x (p : Nat) (go : Option Nat) (v : Value) (xs : List Int) (w : World) (h : TxtX w p go v xs) (hl : xs.length ≤ 1048576) : Calls Try.prog 23 #[v] w fun e w' => ∃ v', e = .returned v' ∧ Below w.heap.size w w' ∧ Fresh w.heap.size w' v' xs ∧ ∃ a n c, v' = .slice a n c := by
  rcases h with h | ⟨rfl, ad, c, rfl⟩
  · exact bclone_any p go v xs w h hl
  · exact bclone_nought ad 0 c rfl w
set_option maxHeartbeats 2000000 in
theorem copied_x (p : Nat) (go : Option Nat) (f t : Int) (v : Value) (xs : List Int) (hv : ∃ a n c, v = .slice a n c) (w : World) (h : TxtX w p go v xs) (hl : xs.length ≤ 1048576) : Calls Try.prog 18 #[.agg #[.int .i64 f, .int .i64 t, v]] w fun e w' => ∃ v', e = .returned (.agg #[.int .i64 f, .int .i64 t, v']) ∧ Below w.heap.size w w' ∧ Fresh w.heap.size w' v' xs ∧ ∃ a n c, v' = .slice a n c := by
  have hcl := Lib.hid (fun w h => bclone_x p go v xs w h hl)
  obtain ⟨a, n, c, rfl⟩ := hv
  go_enter Try.func18, Try.ntmps18
  go_wp2_with fail
  have hb1 := ((Below.refl w.heap.size w).alloc (Nat.le_refl _) (.cells #[.int .i64 f, .int .i64 t, .slice a n c] 32 (0, 0))).alloc (by simp) (.cells #[.int .i64 0, .int .i64 0, .slice none 0 0] 32 (0, 0))
  refine (hcl.out _ (h.moved (Moved.of_below hb1) (.inl rfl))).mono ?_
  rintro e w2 ⟨v', rfl, hb2, hfr, a', n', c', rfl⟩
  have k0 := keeps hb2 (alloc_keeps (o := .cells #[.int .i64 0, .int .i64 0, .slice none 0 0] 32 (0, 0)) (alloc_at (w := w) (o := .cells #[.int .i64 f, .int .i64 t, .slice a n c] 32 (0, 0)) rfl))
  have k1 := keeps hb2 (alloc_at (w := w.alloc (.cells #[.int .i64 f, .int .i64 t, .slice a n c] 32 (0, 0))) (k := w.heap.size + 1) (o := .cells #[.int .i64 0, .int .i64 0, .slice none 0 0] 32 (0, 0)) (by simp))
  replace hb2 := below_next hb1 hb1.size hb2
  clear hb1 hcl h
  have l0 := lt_of_get k0
  have l1 := lt_of_get k1
  obtain ⟨c0, c1, c2, f0, f1, f2⟩ := blkN k0
  obtain ⟨d0, d1, d2, g0, g1, g2⟩ := blkN k1
  go_wp2
  have hfr2 : Fresh w.heap.size ((((w2.setCell { block := w.heap.size, off := 2 } (Value.slice a' n' c')).setCell { block := w.heap.size + 1, off := 0 } (Value.int IntKind.i64 f)).setCell { block := w.heap.size + 1, off := 1 } (Value.int IntKind.i64 t)).setCell { block := w.heap.size + 1, off := 2 } (Value.slice a' n' c')) (.slice a' n' c') xs := by
    refine (hfr.keep fun k h1 h2 => ?_).mono (by simp; omega)
    have h1' : w.heap.size + 1 < k := by simp at h1; omega
    rw [Below.heap_setCell _ _ _ _ (by show k ≠ w.heap.size + 1; omega), Below.heap_setCell _ _ _ _ (by show k ≠ w.heap.size + 1; omega), Below.heap_setCell _ _ _ _ (by show k ≠ w.heap.size + 1; omega), Below.heap_setCell _ _ _ _ (by show k ≠ w.heap.size; omega)]
  have k2 := store1 (store1 (store1 (store_far (a := ⟨w.heap.size, 2, none⟩) (v := .slice a' n' c') k1 (by show w.heap.size + 1 ≠ w.heap.size; omega)) (o := 0) (v := .int .i64 f)) (o := 1) (v := .int .i64 t)) (o := 2) (v := .slice a' n' c')
  obtain ⟨e0, e1, e2, _⟩ := blkN (u := .int .i64 f) (v := .int .i64 t) (x := .slice a' n' c') (k2.trans rfl)
  have hbE := (((hb2.setCell (p := ⟨w.heap.size, 2, none⟩) (Nat.le_refl _) (.slice a' n' c')).setCell (p := ⟨w.heap.size + 1, 0, none⟩) (Nat.le_succ _) (.int .i64 f)).setCell (p := ⟨w.heap.size + 1, 1, none⟩) (Nat.le_succ _) (.int .i64 t)).setCell (p := ⟨w.heap.size + 1, 2, none⟩) (Nat.le_succ _) (.slice a' n' c')
  exact bodyPost_ret (v := .agg #[.int .i64 f, .int .i64 t, .slice a' n' c']) (by simp [results, Try.results18, go_sem, e0, e1, e2]) rfl ⟨_, rfl, hbE, hfr2, _, _, _, rfl⟩

set_option maxHeartbeats 4000000 in
theorem send_x (p : Nat) (L : List (Int × Int × Value)) (v : Value) (s c l f t : Int) (a : Option Addr) (cb : Nat) (xs : List Int) (hmay : ∀ w, Calls Try.prog 19 #[.int .i64 f, .int .i64 t] w fun e w' => e = .returned (.bool true) ∧ Below w.heap.size w w')
    (hn : L.length < 4096) (s0 : 0 ≤ s) (s1 : s < 1000000) (hx : xs.length ≤ 1048576) (w : World) (hp : w.heap[p]? = some (.cells #[v, .int .i64 s, .int .i64 c, .int .i64 l] 46 (0, 0))) (hown : w.ownsRow (p + 1) 32 3 v L.length (lcells L)) (htx : TxtX w p v.ownBlock (.slice a xs.length cb) xs) :
    Calls Try.prog 11 #[.pointer (some ⟨p, 0, none⟩), .agg #[.int .i64 f, .int .i64 t, .slice a xs.length cb]] w fun e w' => ∃ v' bv, e = .returned (.int .i64 0) ∧ Moved p v.ownBlock w w' ∧ (v'.ownBlock = v.ownBlock ∨ ∃ g, v'.ownBlock = some g ∧ w.heap.size ≤ g) ∧
      w'.heap[p]? = some (.cells #[v', .int .i64 (s + 1), .int .i64 c, .int .i64 l] 46 (0, 0)) ∧ w'.ownsRow (p + 1) 32 3 v' (L.length + 1) (lcells (L ++ [(f, t, bv)])) ∧ Txt w' p v'.ownBlock bv xs ∧ Fresh w.heap.size w' bv xs ∧ (∃ a n c, bv = .slice a n c) := by
  obtain ⟨i0, z0, hinf, hz0, hz1, hz2, hz3⟩ := info_partsN info_letter
  obtain ⟨av, nv, cv, hv, hnv⟩ : ∃ av nv cv, v = .slice av nv cv ∧ nv = L.length := by
    rcases hown.2 with ⟨rfl, h0⟩ | ⟨g, cap, cur, rfl, _⟩
    · exact ⟨_, _, _, rfl, h0.symm⟩
    · exact ⟨_, _, _, rfl, rfl⟩
  have hcp := Lib.hid (fun w h => copied_x p v.ownBlock f t _ xs ⟨a, xs.length, cb, rfl⟩ w h hx)
  replace hmay := Lib.hid hmay
  have hnl := Lib.hid hn
  have hxl := Lib.hid hx
  have hlp := lt_of_get hp
  subst hv
  subst hnv
  generalize hm : xs.length = m at *
  have x0 : decide ((1048576 : Int) < (m : Int)) = false := by rw [decide_eq_false_iff_not]; omega
  have n0 : decide ((4096 : Int) ≤ (L.length : Int)) = false := by rw [decide_eq_false_iff_not]; omega
  replace hm := Lib.hid hm
  clear hn hx
  replace hown := Lib.hid hown
  replace htx := Lib.hid htx
  go_enter Try.func11, Try.ntmps11
  go_upto_region 1 with (fail)
  refine name_wp (fun w1 => Below w.heap.size w w1 ∧ w1.heap[p]? = some (.cells #[.slice av L.length cv, .int .i64 s, .int .i64 c, .int .i64 l] 46 (0, 0)) ∧ w1.heap[w.heap.size]? = some (.cells #[.int .i64 f, .int .i64 t, .slice a m cb] 32 (0, 0))) ⟨(Below.refl _ _).alloc (Nat.le_refl _) _, alloc_keeps hp, alloc_at rfl⟩ ?_
  rintro w1 ⟨hb, hq, kx⟩
  have hlx := lt_of_get kx
  obtain ⟨d0, d1, d2, _⟩ := blkN kx
  go_wp2_with fail
  refine call_then (hmay.out _) ?_
  clear d0 d1 d2 hlx
  intro w2 hb2
  replace hb := below_next hb hb.size hb2
  replace hq := keeps hb2 hq
  replace kx := keeps hb2 kx
  clear hb2
  obtain ⟨c0, c1, c2, c3, f0, f1, f2, f3⟩ := blkP hq
  obtain ⟨d0, d1, d2, _⟩ := blkN kx
  go_wp2
  clear c0 c1 c2 c3 f0 f1 f2 f3 d0 d1 d2
  have hpg : some p ≠ (Value.slice av L.length cv).ownBlock := fun e => by
    have := hown.out.lt p e.symm
    omega
  refine segG_start (gb := (Value.slice av L.length cv).ownBlock) 11 (by kernel_rfl) (by decide) ?_
  intro v0 hv0
  replace hb := below_next hb hb.size hv0
  replace hq := keeps hv0 hq
  replace kx := keeps hv0 kx
  clear hv0
  refine segG_batch 5 [0, 1, 2, 3, 4, 5] (by kernel_rfl) rfl (by kernel_rfl) (by kernel_rfl) (by kernel_rfl) ?_
  apply Exists.intro
  refine ⟨fun ι _ φ hφ => ?_, fun v1 hv1 => ?_⟩
  · have hxg : some w.heap.size ≠ (Value.slice av L.length cv).ownBlock := fun e => by
      have := (hown.out.lt w.heap.size e.symm).2
      omega
    have c0 := fun i => (blkP ((hφ.old i).keeps hq hpg)).1
    have d0 := fun i => (blkN ((hφ.old i).keeps kx hxg)).1
    have d1 := fun i => (blkN ((hφ.old i).keeps kx hxg)).2.1
    have d2 := fun i => (blkN ((hφ.old i).keeps kx hxg)).2.2.1
    repeat (refine pick_step rfl ?_; go_big_quiet_step (fail))
    exact pick_end
  replace hb := below_next hb hb.size hv1
  replace hq := keeps hv1 hq
  clear hv1 kx
  refine segG_one 6 _ (by decide) rfl (by kernel_rfl) ?_
  intro v2 K hv2 hK
  replace hb := below_next hb hb.size hv2
  replace hq := keeps hv2 hq
  clear hv2
  replace hK := Lib.hid hK
  go_simp
  refine (hcp.out _ (htx.out.moved (Moved.of_below hb) (.inl rfl))).mono ?_
  rintro e v3 ⟨bv, rfl, hv3, hfr, a', n', c', rfl⟩
  refine hK.out _ _ (Gone.of_below hv3) ?_
  clear hK K
  replace hfr := hfr.mono hb.size
  replace hb := below_next hb hb.size hv3
  replace hq := keeps hv3 hq
  clear hv3
  refine segG_one 7 _ (by decide) rfl (by kernel_rfl) ?_
  intro v4 K hv4 hK
  replace hb := below_next hb hb.size hv4
  replace hq := keeps hv4 hq
  replace hfr := hfr.up hv4
  clear hv4
  replace hK := Lib.hid hK
  go_simp
  refine hK.out _ _ (Gone.of_below ((Below.refl _ _).alloc (Nat.le_refl _) _)) ?_
  clear hK K
  replace hfr := hfr.up ((Below.refl v4.heap.size v4).alloc (Nat.le_refl _) (.cells #[.int .i64 f, .int .i64 t, .slice a' n' c'] 32 (0, 0)))
  replace hq := alloc_keeps (o := .cells #[.int .i64 f, .int .i64 t, .slice a' n' c'] 32 (0, 0)) hq
  have kh := alloc_at (w := v4) (k := v4.heap.size) (o := .cells #[.int .i64 f, .int .i64 t, .slice a' n' c'] 32 (0, 0)) rfl
  have hz4 : w.heap.size ≤ v4.heap.size := hb.size
  replace hb := hb.alloc hb.size (.cells #[.int .i64 f, .int .i64 t, .slice a' n' c'] 32 (0, 0))
  generalize v4.alloc (.cells #[.int .i64 f, .int .i64 t, .slice a' n' c'] 32 (0, 0)) = v5 at *
  refine segG_one 8 _ (by decide) rfl (by kernel_rfl) ?_
  intro v6 K hv6 hK
  replace hb := below_next hb hb.size hv6
  replace hq := keeps hv6 hq
  replace kh := keeps hv6 kh
  replace hfr := hfr.up hv6
  clear hv6
  have hown6 := hown.out.kept ⟨hb.os, hb.tape, hb.output, hb.size, fun k hk _ => hb.block k hk⟩ (row := none) (by cases av <;> simp [Value.ownBlock])
  rw [if_pos (by rfl : Region.wanted _ _ = true)]
  refine wp_append_at _ _ 26 rfl (p + 1) 32 i0 z0 3 40 Try.underlying26 hinf hz0 hz1 hz2 hz3 (by decide) _ _ _ rfl hown6 ⟨_, 0, none⟩ 1 1 [.int .i64 f, .int .i64 t, .slice a' n' c'] rfl rfl (fun j u hj => by rw [Addr.add_mid]; exact At0.of_block kh j u hj) (by simp [Value.oneCell']) (by decide) (by have := hnl.out; unfold maxLen; omega) (by have := hnl.out; omega) (by have := hb.size; omega) ?_
  intro v7 w7 hown7 hg7 hwh
  refine hK _ _ ⟨hg7.os, hg7.tape, hg7.output, hg7.size, fun k hk hne => hg7.block k hk (fun e => hne e)⟩ ?_
  clear hK K
  simp only [Act.put, List.setIfInBounds_toArray, List.set_cons_succ, List.set_cons_zero]
  have hq7 := (hg7.block p (lt_of_get hq) (fun e => hpg e)).trans hq
  have hbM : Moved p (Value.slice av L.length cv).ownBlock w w7 := (Moved.of_below hb).trans ⟨hg7.os, hg7.tape, hg7.output, hg7.size, fun k hk _ hne => hg7.block k hk (fun e => hne e)⟩ (.inl rfl)
  have hown' : v7.ownBlock = (Value.slice av L.length cv).ownBlock ∨ ∃ g, v7.ownBlock = some g ∧ w.heap.size ≤ g := hwh.imp id fun e => ⟨_, e, hb.size⟩
  have htx7 : Txt w7 p v7.ownBlock (.slice a' n' c') xs :=
    (hfr.txt hlp (fun g e => (hown.out.lt g e).2)).moved ⟨hg7.os, hg7.tape, hg7.output, hg7.size, fun k hk _ hne => hg7.block k hk (fun e => hne e)⟩ (hwh.imp id fun e => ⟨_, e, Nat.le_refl _⟩)
  have hfr7 : Fresh w.heap.size w7 (.slice a' n' c') xs := hfr.keep fun k h1 h2 => hg7.block k h2 (fun e => by
    have := (hown.out.lt k e.symm).2
    omega)
  clear hg7 hown6 kh hfr hq hb
  refine segG_batch 0 [9, 10] (by kernel_rfl) rfl (by kernel_rfl) (by kernel_rfl) (by kernel_rfl) ?_
  apply Exists.intro
  refine ⟨fun ι _ φ hφ => ?_, fun v8 hv8 => ?_⟩
  · repeat (refine pick_step rfl ?_; go_big_quiet_step (fail))
    exact pick_end
  refine segG_tail (by kernel_rfl) ?_
  intro v9 hv9
  replace hv8 := below_next hv8 hv8.size hv9
  replace hq7 := keeps hv8 hq7
  replace hbM := hbM.trans (Moved.of_below hv8) (.inl rfl)
  replace htx7 := htx7.moved (Moved.of_below hv8) (.inl rfl)
  replace hfr7 := hfr7.up hv8
  replace hown7 := hown7.kept ⟨hv8.os, hv8.tape, hv8.output, hv8.size, fun k hk _ => hv8.block k hk⟩ (row := none) (by cases v7.ownBlock <;> simp)
  clear hv8 hv9
  obtain ⟨c0, c1, c2, c3, f0, f1, f2, f3⟩ := blkP hq7
  simp only [List.drop_succ_cons, List.drop_zero]
  obtain ⟨a7, n7, c7, rfl⟩ : ∃ a n c, v7 = .slice a n c := by
    rcases hown7.2 with ⟨e, _⟩ | ⟨g, cap, cur, e, _⟩
    · exact ⟨_, _, _, e⟩
    · exact ⟨_, _, _, e⟩
  have sp1 : decide (s + 1 < 0) = false := by rw [decide_eq_false_iff_not]; omega
  go_wp2
  refine calm_normal ?_
  have hq8 := (store1 hq7 (o := 0) (v := .slice a7 n7 c7)).trans rfl
  have hsl : p < v9.heap.size := lt_of_get hq7
  go_wp2
  go_ret
  have hrow := ownsRow_setCell_below (ownsRow_setCell_below hown7 (a := ⟨p, 0, none⟩) (Nat.lt_succ_self p) (.slice a7 n7 c7)) (a := ⟨p, 1, none⟩) (Nat.lt_succ_self p) (.int .i64 (s + 1))
  rw [show lcells L ++ [Value.int IntKind.i64 f, Value.int IntKind.i64 t, Value.slice a' n' c'] = lcells (L ++ [(f, t, .slice a' n' c')]) by rw [lcells_append]; rfl] at hrow
  exact ⟨.slice a7 n7 c7, _, rfl, (hbM.set _).set _, hown', (store1 hq8 (o := 1) (v := .int .i64 (s + 1))).trans rfl, hrow, htx7.moved (((Moved.of_below (Below.refl _ _)).set _).set _) (.inl rfl), hfr7.keep (fun k h1 h2 => by rw [Below.heap_setCell _ _ _ _ (by show k ≠ p; omega), Below.heap_setCell _ _ _ _ (by show k ≠ p; omega)]), _, _, _, rfl⟩

theorem nq_sendx {w0 : World} {p : Nat} {s c l : Int} {vq : Value} {ML MQ : List Mail} (f t : Int) (hmay : mayP f t = true) (A : Option Addr) (xs : List Int) (cb : Nat) (hx : xs.length ≤ 100) (hn : ML.length < 4096) (s0 : 0 ≤ s) (s1 : s < 1000000) (w : World)
    (htx : ∀ go : Option Nat, (∀ g, go = some g → p < g) → TxtX w p go (.slice A xs.length cb) xs) (h : NetQ w0 p s c l vq ML MQ w) :
    Calls Try.prog 11 #[.pointer (some ⟨p, 0, none⟩), .agg #[.int .i64 f, .int .i64 t, .slice A xs.length cb]] w fun e w' => e = .returned (.int .i64 0) ∧ NetQ w0 p (s + 1) c l vq (ML ++ [(f, t, xs)]) MQ w' ∧ ∀ (b : Nat) (cur : Array Value), w.heap[b]? = some (Obj.cells cur 29 (0, 0)) → w'.heap[b]? = w.heap[b]? := by
  obtain ⟨v, L, Q, h1, h2, h3, h4, h5, h6⟩ := h.rows
  have hm' : ∀ w, Calls Try.prog 19 #[.int .i64 f, .int .i64 t] w fun e w' => e = .returned (.bool true) ∧ Below w.heap.size w w' := fun w => by
    have := nmay_any f t w
    rw [hmay] at this
    exact this
  refine (send_x p L v s c l f t A cb xs hm' (by rw [h5.len]; exact hn) s0 s1 (by omega) w h1 h2 (htx _ fun g e => (owns_base h2 g e))).mono ?_
  rintro e w' ⟨v', bv', he, hm, hg, hp', ho', ht', hfr, hsl⟩
  refine ⟨he, ?_, fun b cur hbk => hm.block b (lt_of_get hbk) (fun e => ?_) (fun e => ?_)⟩
  rotate_left
  · rw [e, h1] at hbk
    cases hbk
  · rcases h2.2 with ⟨e2, _⟩ | ⟨g, cap, cur2, e2, _, hg2, _⟩
    · rw [e2] at e
      cases e
    · rw [e2] at e
      cases e
      rw [hbk] at hg2
      cases hg2
  have hlen : (L ++ [(f, t, bv')]).length = L.length + 1 := by simp
  rw [← hlen] at ho'
  have hpw := lt_of_get h1
  exact NetQ.moved h.hb h.hp0 (owns_base h2) h3 h4 h6 hpw hm hg hp' ho' ((h5.imp fun _ _ t => t.moved hm hg).snoc ⟨hsl, hx, ht', hfr.txt hpw (fun g e => (h3.lt g e).2)⟩)

theorem Txt.none {w : World} {p : Nat} {go : Option Nat} {v : Value} {xs : List Int} (h : Txt w p go v xs) : Txt w p none v xs := h.imp id (fun ⟨b, o, c, e, hc⟩ => ⟨b, o, c, e, fun i hi => ⟨(hc i hi).1, by simp, (hc i hi).2.2⟩⟩)
theorem own_cases {w : World} {base n size : Nat} {e : TypeId} {v : Value} {xs : List Value} (h : w.ownsRow base e size v n xs) : v.ownBlock = none ∨ ∃ g, v.ownBlock = some g ∧ base ≤ g := by
  cases hv : v.ownBlock with
  | none => exact .inl rfl
  | some g => exact .inr ⟨g, rfl, (h.lt g hv).1⟩
/-- The law's list put anew, in new memory. -/
theorem NetQ.relist {w0 : World} {p : Nat} {s c l : Int} {v vq vq' : Value} {ML MQ' : List Mail} {w w1 : World} {L Q' : List (Int × Int × Value)} (hb : Below w0.heap.size w0 w) (hp0 : w0.heap.size ≤ p)
    (h1 : w.heap[p]? = some (.cells #[v, .int .i64 s, .int .i64 c, .int .i64 l] 46 (0, 0))) (h2 : w.ownsRow (p + 1) 32 3 v L.length (lcells L)) (h5 : Rep w p v.ownBlock vq.ownBlock L ML)
    (hw : Below w.heap.size w w1) (ho : w1.ownsRow w.heap.size 32 3 vq' Q'.length (lcells Q')) (h6 : Rep w p v.ownBlock vq.ownBlock Q' MQ') : NetQ w0 p s c l vq' ML MQ' w1 := by
  have hpw := lt_of_get h1
  have htx : ∀ bv xs, TextOk w p v.ownBlock vq.ownBlock bv xs → TextOk w1 p v.ownBlock vq'.ownBlock bv xs := fun bv xs t => by
    refine ⟨t.sl, t.few, t.t1.moved (Moved.of_below hw) (.inl rfl), ?_⟩
    rcases own_cases ho with e | ⟨g, e, hg⟩
    · rw [e]
      exact (t.t2.moved (Moved.of_below hw) (.inl rfl)).none
    · exact t.t2.moved (Moved.of_below hw) (.inr ⟨g, e, hg⟩)
  refine ⟨below_next hb hb.size hw, hp0, v, L, Q', keeps hw h1, owns_moved h2 (Moved.of_below (p := p) (go := none) hw) (by omega) (fun g e => by simp), ?_, fun g e e2 => ?_, h5.imp htx, h6.imp htx⟩
  · exact owns_mono ho (by omega)
  · have a := (ho.lt g e).1
    have b := (h2.lt g e2).2
    omega
/-- The law's list grown, where it lay or elsewhere. -/
theorem NetQ.requeue {w0 : World} {p : Nat} {s c l : Int} {v vq vq' : Value} {ML MQ' : List Mail} {w w1 : World} {L Q Q' : List (Int × Int × Value)} (hb : Below w0.heap.size w0 w) (hp0 : w0.heap.size ≤ p)
    (h1 : w.heap[p]? = some (.cells #[v, .int .i64 s, .int .i64 c, .int .i64 l] 46 (0, 0))) (h2 : w.ownsRow (p + 1) 32 3 v L.length (lcells L)) (h3 : w.ownsRow (p + 1) 32 3 vq Q.length (lcells Q)) (h4 : ∀ g, vq.ownBlock = some g → v.ownBlock ≠ some g) (h5 : Rep w p v.ownBlock vq.ownBlock L ML)
    (hm : Moved p vq.ownBlock w w1) (hp1 : w1.heap[p]? = w.heap[p]?) (hg : vq'.ownBlock = vq.ownBlock ∨ ∃ g, vq'.ownBlock = some g ∧ w.heap.size ≤ g) (ho : w1.ownsRow (p + 1) 32 3 vq' Q'.length (lcells Q')) (h6 : Rep w1 p v.ownBlock vq'.ownBlock Q' MQ') : NetQ w0 p s c l vq' ML MQ' w1 := by
  refine ⟨hm.below hb hp0 (fun g e => by have := (h3.lt g e).1; omega) hb.size, hp0, v, L, Q', hp1.trans h1, owns_moved h2 hm (by omega) (fun g e e2 => h4 g e2 e), ho, fun g e e2 => ?_, h5.imp fun _ _ t => (t.swap.moved hm hg).swap, h6⟩
  rcases hg with hg | ⟨g', hg, hle⟩
  · rw [hg] at e
    exact h4 g e e2
  · rw [hg] at e
    cases e
    have := (h2.lt g e2).2
    omega
theorem arg_txt {w0 w : World} {p : Nat} {A : Option Addr} {xs : List Int} {c : Nat} (hB : ArgBytes w0 A xs) (hc : A = none → c = 0) (hb : Below w0.heap.size w0 w) (hp : w0.heap.size ≤ p) (go : Option Nat) (hg : ∀ g, go = some g → p < g) : TxtX w p go (.slice A xs.length c) xs := by
  cases A with
  | none =>
    obtain rfl := hB.1 rfl
    obtain rfl := hc rfl
    exact .inl (.inl ⟨rfl, rfl⟩)
  | some ad =>
    cases xs with
    | nil => exact .inr ⟨rfl, ad, c, rfl⟩
    | cons x xs =>
      have h0 := hB.2 ad rfl 0 (.int .u8 x) rfl
      obtain ⟨b, o, sp⟩ := ad
      have hs : sp = none := by simpa [Addr.add] using World.cell?_spot h0
      subst hs
      refine .inl (.inr ⟨b, o, c, rfl, fun i hi => ?_⟩)
      have hi2 : ((x :: xs).map (Value.int .u8))[i]? = some (.int .u8 ((x :: xs).getD i 0)) := by
        rw [List.getElem?_map, List.getElem?_eq_getElem hi, Option.map_some, List.getD_eq_getElem?_getD, List.getElem?_eq_getElem hi]
        rfl
      have hci := hB.2 _ rfl i _ hi2
      rw [Addr.add_mid] at hci
      have hbl := World.block_lt_of_cell? _ _ hci
      simp only at hbl
      exact ⟨by omega, fun e => by have := hg b e.symm; omega, (hb.cell (World.block_lt_of_cell? _ _ hci)).trans hci⟩
theorem lcells_at3 {Q : List (Int × Int × Value)} {k : Nat} {f t : Int} {bv : Value} (h : Q[k]? = some (f, t, bv)) (j : Nat) (u : Value) (hj : [Value.int .i64 f, .int .i64 t, bv][j]? = some u) : (lcells Q)[k * 3 + j]? = some u := by
  obtain ⟨hk, e⟩ := List.getElem?_eq_some_iff.1 h
  rw [← List.getElem?_drop, lcells_drop, List.drop_eq_getElem_cons hk, e]
  match j, hj with
  | 0, hj => exact hj
  | 1, hj => exact hj
  | 2, hj => exact hj
/-- Where a letter of the law's list lies. -/
theorem lrow {w : World} {base m cq : Nat} {aq : Option Addr} {Q : List (Int × Int × Value)} (hown : w.ownsRow base 32 3 (.slice aq m cq) Q.length (lcells Q)) {k : Nat} {f t : Int} {bv : Value} (h : Q[k]? = some (f, t, bv)) :
    ∃ g, aq = some ⟨g, 0, none⟩ ∧ w.rangeAt g (k * 3) [.int .i64 f, .int .i64 t, bv] := by
  rcases hown.2 with ⟨_, h0⟩ | ⟨g, cap, cur, e, _⟩
  · have := (List.getElem?_eq_some_iff.1 h).1
    omega
  · cases e
    refine ⟨g, rfl, fun j u hj => ?_⟩
    have := hown.cells (g := g) rfl (k * 3 + j) u (lcells_at3 h j u hj)
    rwa [Addr.add_mid, Nat.zero_add] at this
theorem size_letters : ∀ w', (sizeOf (Try.prog.elem 26)).run Try.prog w' = .ok 3 w' := fun w' => by kernel_rfl
theorem und_letters : Try.prog.underlying 26 = some (.slice (Try.prog.elem 26)) := by kernel_rfl
theorem held_allocN (w : World) (B : Nat) (o : Obj) : Held B w (w.alloc o) := Held.of_below ((Below.refl _ _).alloc (Nat.le_refl _) _)
theorem owns_emptyN (w : World) {B : Nat} (hB : B ≤ w.heap.size) : (w.alloc (.cells #[] 32)).ownsRow B 32 3 (.slice (some ⟨w.heap.size, 0, none⟩) 0 0) 0 [] :=
  World.ownsRow_lit w #[] 0 hB (by unfold maxLen; omega) rfl
theorem one_letter {f t : Int} {a : Option Addr} {n c : Nat} : ∀ u ∈ [Value.int .i64 f, .int .i64 t, .slice a n c], u.oneCell' = true := fun u hu => by
  simp only [List.mem_cons, List.not_mem_nil, or_false] at hu
  rcases hu with rfl | rfl | rfl <;> rfl
theorem TextOk.up2 {w w' : World} {p : Nat} {go gq : Option Nat} {bv : Value} {xs : List Int} (h : TextOk w p go gq bv xs) (hb : Below w.heap.size w w') : TextOk w' p go gq bv xs := h.moved (Moved.of_below hb) (.inl rfl)
end Go.Proofs.Ytjkbinpgclnedaa
