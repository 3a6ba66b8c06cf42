/-
  Letters on their way: one is sent.
-/
import Derived.Test.YtjkbinpgclnedaaNetA
import Derived.Test.YtjkbinpgclnedaaSegG
import Derived.Test.YtjkbinpgclnedaaAppend
namespace Go.Proofs.Ytjkbinpgclnedaa
open Go.RowKit Flow
set_option linter.unusedVariables false

def lcells : List (Int × Int × Value) → List Value
  | [] => []
  | (f, t, v) :: r => .int .i64 f :: .int .i64 t :: v :: lcells r
theorem lcells_length : ∀ L, (lcells L).length = L.length * 3
  | [] => rfl
  | (f, t, v) :: r => by simp [lcells, lcells_length r]; omega
theorem lcells_append : ∀ L M, lcells (L ++ M) = lcells L ++ lcells M
  | [], M => rfl
  | (f, t, v) :: r, M => by simp [lcells, lcells_append r M]
theorem blkP {w : World} {p : Nat} {t : TypeId} {u v x y : Value} (h : w.heap[p]? = some (.cells #[u, v, x, y] t (0, 0))) :
    w.cell? ⟨p, 0, none⟩ = some u ∧ w.cell? ⟨p, 1, none⟩ = some v ∧ w.cell? ⟨p, 2, none⟩ = some x ∧ w.cell? ⟨p, 3, none⟩ = some y ∧ w.frozen? ⟨p, 0, none⟩ = false ∧ w.frozen? ⟨p, 1, none⟩ = false ∧ w.frozen? ⟨p, 2, none⟩ = false ∧ w.frozen? ⟨p, 3, none⟩ = false := by
  simp [World.cell?, World.frozen?, h]
theorem info_letter : (Try.prog.info? 32).map (fun i => (i.zero.map (fun z => z.cells.size), i.size, i.bytes)) = some (some 3, 3, 40) := by kernel_rfl
theorem may_30 (w : World) : Calls Try.prog 19 #[.int .i64 3, .int .i64 0] w fun e w' => e = .returned (.bool true) ∧ Below w.heap.size w w' := by
  go_enter Try.func19, Try.ntmps19
  go_wp2
  go_ret
  exact ⟨rfl, Below.refl _ _⟩
theorem may_01 (w : World) : Calls Try.prog 19 #[.int .i64 0, .int .i64 1] w fun e w' => e = .returned (.bool true) ∧ Below w.heap.size w w' := by
  go_enter Try.func19, Try.ntmps19
  go_wp2
  go_ret
  exact ⟨rfl, Below.refl _ _⟩
theorem may_12 (w : World) : Calls Try.prog 19 #[.int .i64 1, .int .i64 2] w fun e w' => e = .returned (.bool true) ∧ Below w.heap.size w w' := by
  go_enter Try.func19, Try.ntmps19
  go_wp2
  go_ret
  exact ⟨rfl, Below.refl _ _⟩
theorem nnew_any (w : World) : Calls Try.prog 7 #[] w fun e w' => e = .returned (.pointer (some ⟨w.heap.size, 0, none⟩)) ∧ w' = w.alloc (.cells #[.slice none 0 0, .int .i64 0, .int .i64 0, .int .i64 0] 46 (0, 0)) := by
  go_enter Try.func7, Try.ntmps7
  go_wp2
  go_ret
  exact ⟨rfl, rfl⟩
theorem nlen_any (p : Nat) (a : Option Addr) (n cap : Nat) (s c l : Int) (w : World) (hp : w.heap[p]? = some (.cells #[.slice a n cap, .int .i64 s, .int .i64 c, .int .i64 l] 46 (0, 0))) : Calls Try.prog 14 #[.pointer (some ⟨p, 0, none⟩)] w fun e w' => e = .returned (.int .i64 n) ∧ Below w.heap.size w w' := by
  go_enter Try.func14, Try.ntmps14
  obtain ⟨c0, _⟩ := blkP hp
  go_wp2
  go_ret
  exact ⟨rfl, Below.refl _ _⟩
theorem nlen_nil (w : World) : Calls Try.prog 14 #[.pointer none] w fun e w' => e = .returned (.int .i64 0) ∧ Below w.heap.size w w' := by
  go_enter Try.func14, Try.ntmps14
  go_wp2
  go_ret
  exact ⟨rfl, Below.refl _ _⟩
theorem nhas_in (p : Nat) (a : Option Addr) (n cap : Nat) (s c l : Int) (i : Nat) (hi : i < n) (hn : n ≤ 5000) (w : World) (hp : w.heap[p]? = some (.cells #[.slice a n cap, .int .i64 s, .int .i64 c, .int .i64 l] 46 (0, 0))) : Calls Try.prog 16 #[.pointer (some ⟨p, 0, none⟩), .int .i64 i] w fun e w' => e = .returned (.bool true) ∧ Below w.heap.size w w' := by
  have hl := Lib.hid (nlen_any p a n cap s c l w hp)
  have h0 : decide ((0 : Int) ≤ i) = true := by simp
  go_enter Try.func16, Try.ntmps16
  go_wp2_with fail
  refine call_then hl.out ?_
  intro w2 hb
  have h1 : (i : Int) < n := by omega
  go_wp2
  go_ret
  exact ⟨rfl, hb⟩
theorem nhas_nil (i : Int) (w : World) : Calls Try.prog 16 #[.pointer none, .int .i64 i] w fun e w' => e = .returned (.bool false) ∧ Below w.heap.size w w' := by
  have hl := Lib.hid (nlen_nil w)
  go_enter Try.func16, Try.ntmps16
  by_cases h : 0 ≤ i
  · have h0 : decide (0 ≤ i) = true := by simp [h]
    go_wp2_with fail
    refine call_then hl.out ?_
    intro w2 hb
    have h1 : decide (i < 0) = false := by simp; omega
    go_wp2
    go_ret
    exact ⟨rfl, hb⟩
  · have h0 : decide (0 ≤ i) = false := by simp [h]
    go_wp2
    go_ret
    exact ⟨rfl, Below.refl _ _⟩
theorem then_normal {P : Program} {c : Code} {Q : Exit → Act → World → Prop} {a : Act} {w : World} (h : c.wp P Q a w) : Exit.then (c.wp P Q) Q .normal a w := h
set_option maxHeartbeats 4000000 in
theorem send_ok (p : Nat) (L : List (Int × Int × Value)) (v : Value) (s c l f t : Int) (a : Option Addr) (cb : Nat) (xs : List Int) (hmay : ∀ w, Calls Try.prog 19 #[.int .i64 f, .int .i64 t] w fun e w' => e = .returned (.bool true) ∧ Below w.heap.size w w')
    (hn : L.length < 4096) (s0 : 0 ≤ s) (s1 : s < 1000000) (hx : xs.length ≤ 1048576) (w : World) (hp : w.heap[p]? = some (.cells #[v, .int .i64 s, .int .i64 c, .int .i64 l] 46 (0, 0))) (hown : w.ownsRow (p + 1) 32 3 v L.length (lcells L)) (htx : Txt w p v.ownBlock (.slice a xs.length cb) xs) :
    Calls Try.prog 11 #[.pointer (some ⟨p, 0, none⟩), .agg #[.int .i64 f, .int .i64 t, .slice a xs.length cb]] w fun e w' => ∃ v' bv, e = .returned (.int .i64 0) ∧ Moved p v.ownBlock w w' ∧ (v'.ownBlock = v.ownBlock ∨ ∃ g, v'.ownBlock = some g ∧ w.heap.size ≤ g) ∧
      w'.heap[p]? = some (.cells #[v', .int .i64 (s + 1), .int .i64 c, .int .i64 l] 46 (0, 0)) ∧ w'.ownsRow (p + 1) 32 3 v' (L.length + 1) (lcells (L ++ [(f, t, bv)])) ∧ Txt w' p v'.ownBlock bv xs ∧ Fresh w.heap.size w' bv xs ∧ (∃ a n c, bv = .slice a n c) := by
  obtain ⟨i0, z0, hinf, hz0, hz1, hz2, hz3⟩ := info_partsN info_letter
  obtain ⟨av, nv, cv, hv, hnv⟩ : ∃ av nv cv, v = .slice av nv cv ∧ nv = L.length := by
    rcases hown.2 with ⟨rfl, h0⟩ | ⟨g, cap, cur, rfl, _⟩
    · exact ⟨_, _, _, rfl, h0.symm⟩
    · exact ⟨_, _, _, rfl, rfl⟩
  have hcp := Lib.hid (fun w h => copied_any p v.ownBlock f t _ xs ⟨a, xs.length, cb, rfl⟩ w h hx)
  replace hmay := Lib.hid hmay
  have hnl := Lib.hid hn
  have hxl := Lib.hid hx
  have hlp := lt_of_get hp
  subst hv
  subst hnv
  generalize hm : xs.length = m at *
  have x0 : decide ((1048576 : Int) < (m : Int)) = false := by rw [decide_eq_false_iff_not]; omega
  have n0 : decide ((4096 : Int) ≤ (L.length : Int)) = false := by rw [decide_eq_false_iff_not]; omega
  replace hm := Lib.hid hm
  clear hn hx
  replace hown := Lib.hid hown
  replace htx := Lib.hid htx
  go_enter Try.func11, Try.ntmps11
  go_upto_region 1 with (fail)
  refine name_wp (fun w1 => Below w.heap.size w w1 ∧ w1.heap[p]? = some (.cells #[.slice av L.length cv, .int .i64 s, .int .i64 c, .int .i64 l] 46 (0, 0)) ∧ w1.heap[w.heap.size]? = some (.cells #[.int .i64 f, .int .i64 t, .slice a m cb] 32 (0, 0))) ⟨(Below.refl _ _).alloc (Nat.le_refl _) _, alloc_keeps hp, alloc_at rfl⟩ ?_
  rintro w1 ⟨hb, hq, kx⟩
  have hlx := lt_of_get kx
  obtain ⟨d0, d1, d2, _⟩ := blkN kx
  go_wp2_with fail
  refine call_then (hmay.out _) ?_
  clear d0 d1 d2 hlx
  intro w2 hb2
  replace hb := below_next hb hb.size hb2
  replace hq := keeps hb2 hq
  replace kx := keeps hb2 kx
  clear hb2
  obtain ⟨c0, c1, c2, c3, f0, f1, f2, f3⟩ := blkP hq
  obtain ⟨d0, d1, d2, _⟩ := blkN kx
  go_wp2
  clear c0 c1 c2 c3 f0 f1 f2 f3 d0 d1 d2
  have hpg : some p ≠ (Value.slice av L.length cv).ownBlock := fun e => by
    have := hown.out.lt p e.symm
    omega
  refine segG_start (gb := (Value.slice av L.length cv).ownBlock) 11 (by kernel_rfl) (by decide) ?_
  intro v0 hv0
  replace hb := below_next hb hb.size hv0
  replace hq := keeps hv0 hq
  replace kx := keeps hv0 kx
  clear hv0
  refine segG_batch 5 [0, 1, 2, 3, 4, 5] (by kernel_rfl) rfl (by kernel_rfl) (by kernel_rfl) (by kernel_rfl) ?_
  apply Exists.intro
  refine ⟨fun ι _ φ hφ => ?_, fun v1 hv1 => ?_⟩
  · have hxg : some w.heap.size ≠ (Value.slice av L.length cv).ownBlock := fun e => by
      have := (hown.out.lt w.heap.size e.symm).2
      omega
    have c0 := fun i => (blkP ((hφ.old i).keeps hq hpg)).1
    have d0 := fun i => (blkN ((hφ.old i).keeps kx hxg)).1
    have d1 := fun i => (blkN ((hφ.old i).keeps kx hxg)).2.1
    have d2 := fun i => (blkN ((hφ.old i).keeps kx hxg)).2.2.1
    repeat (refine pick_step rfl ?_; go_big_quiet_step (fail))
    exact pick_end
  replace hb := below_next hb hb.size hv1
  replace hq := keeps hv1 hq
  clear hv1 kx
  refine segG_one 6 _ (by decide) rfl (by kernel_rfl) ?_
  intro v2 K hv2 hK
  replace hb := below_next hb hb.size hv2
  replace hq := keeps hv2 hq
  clear hv2
  replace hK := Lib.hid hK
  go_simp
  refine (hcp.out _ (htx.out.moved (Moved.of_below hb) (.inl rfl))).mono ?_
  rintro e v3 ⟨bv, rfl, hv3, hfr, a', n', c', rfl⟩
  refine hK.out _ _ (Gone.of_below hv3) ?_
  clear hK K
  replace hfr := hfr.mono hb.size
  replace hb := below_next hb hb.size hv3
  replace hq := keeps hv3 hq
  clear hv3
  refine segG_one 7 _ (by decide) rfl (by kernel_rfl) ?_
  intro v4 K hv4 hK
  replace hb := below_next hb hb.size hv4
  replace hq := keeps hv4 hq
  replace hfr := hfr.up hv4
  clear hv4
  replace hK := Lib.hid hK
  go_simp
  refine hK.out _ _ (Gone.of_below ((Below.refl _ _).alloc (Nat.le_refl _) _)) ?_
  clear hK K
  replace hfr := hfr.up ((Below.refl v4.heap.size v4).alloc (Nat.le_refl _) (.cells #[.int .i64 f, .int .i64 t, .slice a' n' c'] 32 (0, 0)))
  replace hq := alloc_keeps (o := .cells #[.int .i64 f, .int .i64 t, .slice a' n' c'] 32 (0, 0)) hq
  have kh := alloc_at (w := v4) (k := v4.heap.size) (o := .cells #[.int .i64 f, .int .i64 t, .slice a' n' c'] 32 (0, 0)) rfl
  have hz4 : w.heap.size ≤ v4.heap.size := hb.size
  replace hb := hb.alloc hb.size (.cells #[.int .i64 f, .int .i64 t, .slice a' n' c'] 32 (0, 0))
  generalize v4.alloc (.cells #[.int .i64 f, .int .i64 t, .slice a' n' c'] 32 (0, 0)) = v5 at *
  refine segG_one 8 _ (by decide) rfl (by kernel_rfl) ?_
  intro v6 K hv6 hK
  replace hb := below_next hb hb.size hv6
  replace hq := keeps hv6 hq
  replace kh := keeps hv6 kh
  replace hfr := hfr.up hv6
  clear hv6
  have hown6 := hown.out.kept ⟨hb.os, hb.tape, hb.output, hb.size, fun k hk _ => hb.block k hk⟩ (row := none) (by cases av <;> simp [Value.ownBlock])
  rw [if_pos (by rfl : Region.wanted _ _ = true)]
  refine wp_append_at _ _ 26 rfl (p + 1) 32 i0 z0 3 40 Try.underlying26 hinf hz0 hz1 hz2 hz3 (by decide) _ _ _ rfl hown6 ⟨_, 0, none⟩ 1 1 [.int .i64 f, .int .i64 t, .slice a' n' c'] rfl rfl (fun j u hj => by rw [Addr.add_mid]; exact At0.of_block kh j u hj) (by simp [Value.oneCell']) (by decide) (by have := hnl.out; unfold maxLen; omega) (by have := hnl.out; omega) (by have := hb.size; omega) ?_
  intro v7 w7 hown7 hg7 hwh
  refine hK _ _ ⟨hg7.os, hg7.tape, hg7.output, hg7.size, fun k hk hne => hg7.block k hk (fun e => hne e)⟩ ?_
  clear hK K
  simp only [Act.put, List.setIfInBounds_toArray, List.set_cons_succ, List.set_cons_zero]
  have hq7 := (hg7.block p (lt_of_get hq) (fun e => hpg e)).trans hq
  have hbM : Moved p (Value.slice av L.length cv).ownBlock w w7 := (Moved.of_below hb).trans ⟨hg7.os, hg7.tape, hg7.output, hg7.size, fun k hk _ hne => hg7.block k hk (fun e => hne e)⟩ (.inl rfl)
  have hown' : v7.ownBlock = (Value.slice av L.length cv).ownBlock ∨ ∃ g, v7.ownBlock = some g ∧ w.heap.size ≤ g := hwh.imp id fun e => ⟨_, e, hb.size⟩
  have htx7 : Txt w7 p v7.ownBlock (.slice a' n' c') xs :=
    (hfr.txt hlp (fun g e => (hown.out.lt g e).2)).moved ⟨hg7.os, hg7.tape, hg7.output, hg7.size, fun k hk _ hne => hg7.block k hk (fun e => hne e)⟩ (hwh.imp id fun e => ⟨_, e, Nat.le_refl _⟩)
  have hfr7 : Fresh w.heap.size w7 (.slice a' n' c') xs := hfr.keep fun k h1 h2 => hg7.block k h2 (fun e => by
    have := (hown.out.lt k e.symm).2
    omega)
  clear hg7 hown6 kh hfr hq hb
  refine segG_batch 0 [9, 10] (by kernel_rfl) rfl (by kernel_rfl) (by kernel_rfl) (by kernel_rfl) ?_
  apply Exists.intro
  refine ⟨fun ι _ φ hφ => ?_, fun v8 hv8 => ?_⟩
  · repeat (refine pick_step rfl ?_; go_big_quiet_step (fail))
    exact pick_end
  refine segG_tail (by kernel_rfl) ?_
  intro v9 hv9
  replace hv8 := below_next hv8 hv8.size hv9
  replace hq7 := keeps hv8 hq7
  replace hbM := hbM.trans (Moved.of_below hv8) (.inl rfl)
  replace htx7 := htx7.moved (Moved.of_below hv8) (.inl rfl)
  replace hfr7 := hfr7.up hv8
  replace hown7 := hown7.kept ⟨hv8.os, hv8.tape, hv8.output, hv8.size, fun k hk _ => hv8.block k hk⟩ (row := none) (by cases v7.ownBlock <;> simp)
  clear hv8 hv9
  obtain ⟨c0, c1, c2, c3, f0, f1, f2, f3⟩ := blkP hq7
  simp only [List.drop_succ_cons, List.drop_zero]
  obtain ⟨a7, n7, c7, rfl⟩ : ∃ a n c, v7 = .slice a n c := by
    rcases hown7.2 with ⟨e, _⟩ | ⟨g, cap, cur, e, _⟩
    · exact ⟨_, _, _, e⟩
    · exact ⟨_, _, _, e⟩
  have sp1 : decide (s + 1 < 0) = false := by rw [decide_eq_false_iff_not]; omega
  go_wp2
  refine calm_normal ?_
  have hq8 := (store1 hq7 (o := 0) (v := .slice a7 n7 c7)).trans rfl
  have hsl : p < v9.heap.size := lt_of_get hq7
  go_wp2
  go_ret
  have hrow := ownsRow_setCell_below (ownsRow_setCell_below hown7 (a := ⟨p, 0, none⟩) (Nat.lt_succ_self p) (.slice a7 n7 c7)) (a := ⟨p, 1, none⟩) (Nat.lt_succ_self p) (.int .i64 (s + 1))
  rw [show lcells L ++ [Value.int IntKind.i64 f, Value.int IntKind.i64 t, Value.slice a' n' c'] = lcells (L ++ [(f, t, .slice a' n' c')]) by rw [lcells_append]; rfl] at hrow
  exact ⟨.slice a7 n7 c7, _, rfl, (hbM.set _).set _, hown', (store1 hq8 (o := 1) (v := .int .i64 (s + 1))).trans rfl, hrow, htx7.moved (((Moved.of_below (Below.refl _ _)).set _).set _) (.inl rfl), hfr7.keep (fun k h1 h2 => by rw [Below.heap_setCell _ _ _ _ (by show k ≠ p; omega), Below.heap_setCell _ _ _ _ (by show k ≠ p; omega)]), _, _, _, rfl⟩
end Go.Proofs.Ytjkbinpgclnedaa
