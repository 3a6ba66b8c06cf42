/-
  Letters on their way: one is doubled.
-/
import Derived.Test.YtjkbinpgclnedaaNetE
namespace Go.Proofs.Ytjkbinpgclnedaa
open Go.RowKit Flow
set_option linter.unusedVariables false

set_option maxHeartbeats 4000000 in
theorem double_fr (p g cap i : Nat) (L : List (Int × Int × Value)) (s c l f t : Int) (a : Option Addr) (nb cb : Nat) (xs : List Int) (hi : L[i]? = some (f, t, .slice a nb cb)) (hn : L.length < 4096) (hx : xs.length ≤ 1048576) (w : World)
    (hp : w.heap[p]? = some (.cells #[.slice (some ⟨g, 0, none⟩) L.length cap, .int .i64 s, .int .i64 c, .int .i64 l] 46 (0, 0))) (hown : w.ownsRow (p + 1) 32 3 (.slice (some ⟨g, 0, none⟩) L.length cap) L.length (lcells L)) (htx : Txt w p (some g) (.slice a nb cb) xs) :
    Calls Try.prog 10 #[.pointer (some ⟨p, 0, none⟩), .int .i64 i] w fun e w' => ∃ v' bv, e = .returned (.bool true) ∧ Moved p (some g) w w' ∧ (v'.ownBlock = some g ∨ ∃ g', v'.ownBlock = some g' ∧ w.heap.size ≤ g') ∧
      w'.heap[p]? = some (.cells #[v', .int .i64 s, .int .i64 c, .int .i64 l] 46 (0, 0)) ∧ w'.ownsRow (p + 1) 32 3 v' (L.length + 1) (lcells (L ++ [(f, t, bv)])) ∧ Txt w' p v'.ownBlock bv xs ∧ Fresh w.heap.size w' bv xs ∧ (∃ a n c, bv = .slice a n c) := by
  obtain ⟨i0, z0, hinf, hz0, hz1, hz2, hz3⟩ := info_partsN info_letter
  have hil := (List.getElem?_eq_some_iff.1 hi).1
  have hhas := Lib.hid (fun w hp => nhas_in p (some ⟨g, 0, none⟩) L.length cap s c l i hil (by omega) w hp)
  have hcp := Lib.hid (fun w h => copied_any p (some g) f t _ xs ⟨a, nb, cb, rfl⟩ w h hx)
  have hlt := owns_letter hown hi
  have hlg := (hown.lt g rfl)
  have hnl := Lib.hid hn
  have hlp := lt_of_get hp
  have i0' : (0 : Int) ≤ (i : Int) := by omega
  have i1' : (i : Int) < (L.length : Int) := by omega
  have n0 : decide ((4096 : Int) ≤ (L.length : Int)) = false := by rw [decide_eq_false_iff_not]; omega
  replace hown := Lib.hid hown
  replace htx := Lib.hid htx
  clear hn
  generalize hm : L.length = m at *
  replace hm := Lib.hid hm
  go_enter Try.func10, Try.ntmps10
  go_wp2_with fail
  refine call_then (hhas.out _ hp) ?_
  intro w2 hb
  have hq := keeps hb hp
  obtain ⟨c0, c1, c2, c3, f0, f1, f2, f3⟩ := blkP hq
  go_wp2
  clear c0 c1 c2 c3 f0 f1 f2 f3
  have hpg : some p ≠ (Value.slice (some ⟨g, 0, none⟩) m cap).ownBlock := fun e => by
    have := hown.out.lt p e.symm
    omega
  refine segG_start (gb := (Value.slice (some ⟨g, 0, none⟩) m cap).ownBlock) 17 (by kernel_rfl) (by decide) ?_
  intro v0 hv0
  replace hb := below_next hb hb.size hv0
  replace hq := keeps hv0 hq
  clear hv0
  refine segG_batch 6 [0, 1, 2, 3, 4, 5, 6, 7, 8, 9, 10] (by kernel_rfl) rfl (by kernel_rfl) (by kernel_rfl) (by kernel_rfl) ?_
  apply Exists.intro
  refine ⟨fun ι _ φ hφ => ?_, fun v1 hv1 => ?_⟩
  · have c0 := fun i => (blkP ((hφ.old i).keeps hq hpg)).1
    repeat (refine pick_step rfl ?_; go_big_quiet_step (fail))
    exact pick_end
  replace hb := below_next hb hb.size hv1
  replace hq := keeps hv1 hq
  clear hv1
  refine segG_one 11 _ (by decide) rfl (by kernel_rfl) ?_
  intro v2 K hv2 hK
  replace hb := below_next hb hb.size hv2
  replace hq := keeps hv2 hq
  clear hv2
  replace hK := Lib.hid hK
  have b0 := (hb.cell (World.block_lt_of_cell? _ _ hlt.1)).trans hlt.1
  have b1 := (hb.cell (World.block_lt_of_cell? _ _ hlt.2.1)).trans hlt.2.1
  have b2 := (hb.cell (World.block_lt_of_cell? _ _ hlt.2.2)).trans hlt.2.2
  go_simp
  refine hK.out _ _ (Gone.refl _ _) ?_
  clear hK K b0 b1 b2
  refine segG_one 12 _ (by decide) rfl (by kernel_rfl) ?_
  intro v2' K hv2 hK
  replace hb := below_next hb hb.size hv2
  replace hq := keeps hv2 hq
  clear hv2
  replace hK := Lib.hid hK
  go_simp
  refine (hcp.out _ (htx.out.moved (Moved.of_below hb) (.inl rfl))).mono ?_
  rintro e v3 ⟨bv, rfl, hv3, hfr, a', n', c', rfl⟩
  refine hK.out _ _ (Gone.of_below hv3) ?_
  clear hK K
  replace hfr := hfr.mono hb.size
  replace hb := below_next hb hb.size hv3
  replace hq := keeps hv3 hq
  clear hv3
  refine segG_one 13 _ (by decide) rfl (by kernel_rfl) ?_
  intro v4 K hv4 hK
  replace hb := below_next hb hb.size hv4
  replace hq := keeps hv4 hq
  replace hfr := hfr.up hv4
  clear hv4
  replace hK := Lib.hid hK
  go_simp
  refine hK.out _ _ (Gone.of_below ((Below.refl _ _).alloc (Nat.le_refl _) _)) ?_
  clear hK K
  replace hfr := hfr.up ((Below.refl v4.heap.size v4).alloc (Nat.le_refl _) (.cells #[.int .i64 f, .int .i64 t, .slice a' n' c'] 32 (0, 0)))
  replace hq := alloc_keeps (o := (.cells #[.int .i64 f, .int .i64 t, .slice a' n' c'] 32 (0, 0))) hq
  have kh := alloc_at (w := v4) (k := v4.heap.size) (o := (.cells #[.int .i64 f, .int .i64 t, .slice a' n' c'] 32 (0, 0))) rfl
  replace hb := hb.alloc hb.size (.cells #[.int .i64 f, .int .i64 t, .slice a' n' c'] 32 (0, 0))
  generalize v4.alloc (.cells #[.int .i64 f, .int .i64 t, .slice a' n' c'] 32 (0, 0)) = v5 at *
  refine segG_one 14 _ (by decide) rfl (by kernel_rfl) ?_
  intro v6 K hv6 hK
  replace hb := below_next hb hb.size hv6
  replace hq := keeps hv6 hq
  replace kh := keeps hv6 kh
  replace hfr := hfr.up hv6
  clear hv6
  have hown6 := hown.out.kept ⟨hb.os, hb.tape, hb.output, hb.size, fun k hk _ => hb.block k hk⟩ (row := none) (by simp [Value.ownBlock])
  rw [if_pos (by rfl : Region.wanted _ _ = true)]
  refine wp_append_at _ _ 26 rfl (p + 1) 32 i0 z0 3 40 Try.underlying26 hinf hz0 hz1 hz2 hz3 (by decide) _ _ _ rfl hown6 ⟨_, 0, none⟩ 1 1 [.int .i64 f, .int .i64 t, .slice a' n' c'] rfl rfl (fun j u hj => by rw [Addr.add_mid]; exact At0.of_block kh j u hj) (by simp [Value.oneCell']) (by decide) (by have := hnl.out; unfold maxLen; omega) (by have := hnl.out; omega) (by have := hb.size; omega) ?_
  intro v7 w7 hown7 hg7 hwh
  refine hK _ _ ⟨hg7.os, hg7.tape, hg7.output, hg7.size, fun k hk hne => hg7.block k hk (fun e => hne e)⟩ ?_
  clear hK K
  simp only [Act.put, List.setIfInBounds_toArray, List.set_cons_succ, List.set_cons_zero]
  have hq7 := (hg7.block p (lt_of_get hq) (fun e => hpg e)).trans hq
  have hbM : Moved p (Value.slice (some ⟨g, 0, none⟩) m cap).ownBlock w w7 := (Moved.of_below hb).trans ⟨hg7.os, hg7.tape, hg7.output, hg7.size, fun k hk _ hne => hg7.block k hk (fun e => hne e)⟩ (.inl rfl)
  have hown' : v7.ownBlock = (Value.slice (some ⟨g, 0, none⟩) m cap).ownBlock ∨ ∃ g, v7.ownBlock = some g ∧ w.heap.size ≤ g := hwh.imp id fun e => ⟨_, e, hb.size⟩
  have htx7 : Txt w7 p v7.ownBlock (.slice a' n' c') xs :=
    (hfr.txt hlp (fun g e => (hown.out.lt g e).2)).moved ⟨hg7.os, hg7.tape, hg7.output, hg7.size, fun k hk _ hne => hg7.block k hk (fun e => hne e)⟩ (hwh.imp id fun e => ⟨_, e, Nat.le_refl _⟩)
  have hfr7 : Fresh w.heap.size w7 (.slice a' n' c') xs := hfr.keep fun k h1 h2 => hg7.block k h2 (fun e => by
    have := (hown.out.lt k e.symm).2
    omega)
  clear hg7 hown6 kh hfr hq hb
  refine segG_batch 0 [15, 16] (by kernel_rfl) rfl (by kernel_rfl) (by kernel_rfl) (by kernel_rfl) ?_
  apply Exists.intro
  refine ⟨fun ι _ φ hφ => ?_, fun v8 hv8 => ?_⟩
  · repeat (refine pick_step rfl ?_; go_big_quiet_step (fail))
    exact pick_end
  refine segG_tail (by kernel_rfl) ?_
  intro v9 hv9
  replace hv8 := below_next hv8 hv8.size hv9
  replace hq7 := keeps hv8 hq7
  replace hbM := hbM.trans (Moved.of_below hv8) (.inl rfl)
  replace htx7 := htx7.moved (Moved.of_below hv8) (.inl rfl)
  replace hfr7 := hfr7.up hv8
  replace hown7 := hown7.kept ⟨hv8.os, hv8.tape, hv8.output, hv8.size, fun k hk _ => hv8.block k hk⟩ (row := none) (by cases v7.ownBlock <;> simp)
  clear hv8 hv9
  obtain ⟨c0, c1, c2, c3, f0, f1, f2, f3⟩ := blkP hq7
  simp only [List.drop_succ_cons, List.drop_zero]
  obtain ⟨a7, n7, c7, rfl⟩ : ∃ a n c, v7 = .slice a n c := by
    rcases hown7.2 with ⟨e, _⟩ | ⟨g, cap, cur, e, _⟩
    · exact ⟨_, _, _, e⟩
    · exact ⟨_, _, _, e⟩
  go_wp2
  refine calm_normal ?_
  have hq8 := (store1 hq7 (o := 0) (v := .slice a7 n7 c7)).trans rfl
  have hsl : p < v9.heap.size := lt_of_get hq7
  go_wp2
  go_ret
  have hrow := ownsRow_setCell_below hown7 (a := ⟨p, 0, none⟩) (Nat.lt_succ_self p) (.slice a7 n7 c7)
  rw [show lcells L ++ [Value.int IntKind.i64 f, Value.int IntKind.i64 t, Value.slice a' n' c'] = lcells (L ++ [(f, t, .slice a' n' c')]) by rw [lcells_append]; rfl] at hrow
  exact ⟨.slice a7 n7 c7, _, rfl, hbM.set _, hown', hq8, hrow, htx7.moved ((Moved.of_below (Below.refl _ _)).set _) (.inl rfl), hfr7.keep (fun k h1 h2 => by rw [Below.heap_setCell _ _ _ _ (by show k ≠ p; omega)]), _, _, _, rfl⟩
theorem double_ok (p g cap i : Nat) (L : List (Int × Int × Value)) (s c l f t : Int) (a : Option Addr) (nb cb : Nat) (xs : List Int) (hi : L[i]? = some (f, t, .slice a nb cb)) (hn : L.length < 4096) (hx : xs.length ≤ 1048576) (w : World)
    (hp : w.heap[p]? = some (.cells #[.slice (some ⟨g, 0, none⟩) L.length cap, .int .i64 s, .int .i64 c, .int .i64 l] 46 (0, 0))) (hown : w.ownsRow (p + 1) 32 3 (.slice (some ⟨g, 0, none⟩) L.length cap) L.length (lcells L)) (htx : Txt w p (some g) (.slice a nb cb) xs) :
    Calls Try.prog 10 #[.pointer (some ⟨p, 0, none⟩), .int .i64 i] w fun e w' => ∃ v' bv, e = .returned (.bool true) ∧ Moved p (some g) w w' ∧ (v'.ownBlock = some g ∨ ∃ g', v'.ownBlock = some g' ∧ w.heap.size ≤ g') ∧
      w'.heap[p]? = some (.cells #[v', .int .i64 s, .int .i64 c, .int .i64 l] 46 (0, 0)) ∧ w'.ownsRow (p + 1) 32 3 v' (L.length + 1) (lcells (L ++ [(f, t, bv)])) ∧ Txt w' p v'.ownBlock bv xs ∧ (∃ a n c, bv = .slice a n c) := by
  exact (double_fr p g cap i L s c l f t a nb cb xs hi hn hx w hp hown htx).mono fun e w' ⟨v', bv, h1, h2, h3, h4, h5, h6, _, h8⟩ => ⟨v', bv, h1, h2, h3, h4, h5, h6, h8⟩
end Go.Proofs.Ytjkbinpgclnedaa
