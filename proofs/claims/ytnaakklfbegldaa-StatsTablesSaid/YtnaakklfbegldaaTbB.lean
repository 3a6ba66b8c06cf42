/-
  A table of rows: the first row.
-/
import Derived.Test.YtnaakklfbegldaaTbA
import Derived.Deep.Cut
import Derived.Deep.DeepCutAuto
import Derived.Deep.CutBlock
namespace Go.Proofs.Ytnaakklfbegldaa
open Go.RowKit Flow
set_option linter.unusedVariables false
set_option linter.unusedSimpArgs false

theorem blk1t {w : World} {p : Nat} {t : TypeId} {u : Value} (h : w.heap[p]? = some (.cells #[u] t (0, 0))) : w.cell? ⟨p, 0, none⟩ = some u ∧ w.frozen? ⟨p, 0, none⟩ = false := by
  refine ⟨?_, ?_⟩ <;> simp [World.cell?, World.frozen?, h]
/-- A row's cells. -/
def rowc (t m : Int) (v : Value) : List Value := [.int .u64 t, .int .i64 m, v]
theorem rowc_one {t m : Int} {A : Option Addr} {n c : Nat} : ∀ u ∈ rowc t m (.slice A n c), u.oneCell' = true := fun u hu => by
  unfold rowc at hu
  simp only [List.mem_cons, List.not_mem_nil, or_false] at hu
  rcases hu with rfl | rfl | rfl <;> rfl
theorem many_one (w : World) : Calls Try.prog 25 #[.int .i64 1] w fun e w' => e = .returned (.bool true) ∧ Below w.heap.size w w' := by
  go_enter Try.func25, Try.ntmps25
  go_wp2
  go_ret
  exact ⟨rfl, Below.refl _ _⟩
set_option maxHeartbeats 1000000 in
theorem tsearch_nil (y : Int) (w : World) : Calls Try.prog 40 #[.slice none 0 0, .int .u64 y, .func (.func 41) #[] #[]] w fun e w' => e = .returned (.tuple #[.int .i64 0, .bool false]) ∧ Below w.heap.size w w' := by
  go_enter Try.func40, Try.ntmps40
  go_upto_region 1 with (fail)
  refine name_wp (fun w1 => Below w.heap.size w w1) (by first | exact Below.refl _ _ | exact (Below.refl _ _).alloc (Nat.le_refl _) _) ?_
  rintro w1 hb
  go_wp2
  refine wp_loop_rounds 1 ?_
  rw [rounds_succ]
  go_wp2
  refine bodyPost_ret (v := .tuple #[.int .i64 0, .bool false]) (by simp [results, Try.results40, go_sem]) rfl ⟨rfl, hb⟩
set_option maxHeartbeats 1000000 in
theorem tfind_nil (p : Nat) (y : Int) (w : World) (hp : w.heap[p]? = some (.cells #[.slice none 0 0] 25 (0, 0))) : Calls Try.prog 26 #[.pointer (some ⟨p, 0, none⟩), .int .u64 y] w fun e w' => e = .returned (.tuple #[.int .i64 0, .bool false]) ∧ Below w.heap.size w w' := by
  have hs := Lib.hid (tsearch_nil y)
  go_enter Try.func26, Try.ntmps26
  obtain ⟨c0, _⟩ := blk1t hp
  go_wp2_with fail
  refine call_then (hs.out _) ?_
  intro w2 hw2
  go_wp2
  exact bodyPost_ret (v := .tuple #[.int .i64 0, .bool false]) (by simp [results, Try.results26, go_sem]) rfl ⟨rfl, hw2⟩
set_option maxHeartbeats 2000000 in
theorem tinsert_nil (h : Nat) (t m : Int) (A : Option Addr) (n c : Nat) (w : World) (hh : At0 w h (rowc t m (.slice A n c))) : Calls Try.prog 27 #[.slice none 0 0, .int .i64 0, .slice (some ⟨h, 0, none⟩) 1 1] w fun e w' => ∃ g cap, e = .returned (.slice (some ⟨g, 0, none⟩) 1 cap) ∧ Below w.heap.size w w' ∧ w.heap.size ≤ g ∧ At0 w' g (rowc t m (.slice A n c)) := by
  obtain ⟨i0, z0, hinf, hz0, hz1, hz2, hz3⟩ := info_parts5 info_row
  have hown : w.ownsRow w.heap.size 29 3 (.slice none 0 0) 0 [] := World.ownsRow_nil _ _ _ _
  have hl : (rowc t m (.slice A n c)).length = 3 := rfl
  have hone := @rowc_one t m A n c
  have hn : ∀ j u, (rowc t m (.slice A n c))[j]? = some u → w.cell? ((⟨h, 0, none⟩ : Addr).add j) = some u := fun j u hj => by rw [Addr.add_mid]; exact hh j u hj
  replace hh := Lib.hid hh
  generalize rowc t m (.slice A n c) = cs at *
  replace hl := Lib.hid hl
  replace hone := Lib.hid hone
  replace hn := Lib.hid hn
  replace hown := Lib.hid hown
  go_enter Try.func27, Try.ntmps27
  go_wp2_with (at_builtin; refine wpList_append_own _ rfl _ _ 22 rfl w.heap.size 29 i0 z0 3 40 Try.underlying22 hinf hz0 hz1 hz2 hz3 (by decide) _ _ _ rfl hown.out ⟨_, 0, none⟩ 1 1 cs rfl hl.out hn.out hone.out (by unfold maxLen; omega) (by omega) (Nat.le_refl _) ?_; intro v1 w6 hown6 hg6 hnn; have hb6 := (Below.refl w.heap.size w).grown hg6 (Nat.le_refl _) (fun k hk => by cases hk); clear hg6)
  rw [List.nil_append] at hown6
  obtain ⟨g, cap, rfl, hg⟩ : ∃ g cap, v1 = .slice (some ⟨g, 0, none⟩) 1 cap ∧ w.heap.size ≤ g := by
    rcases hown6.2 with ⟨_, h0⟩ | ⟨g, cap, cur, e, hbg, _⟩
    · exact absurd h0 (by omega)
    · exact ⟨g, cap, e, hbg⟩
  have hc := hown6.cells (g := g) rfl
  go_ret
  exact ⟨g, cap, rfl, hb6, hg, fun j v hj => by have := hc j v hj; rw [Addr.add_mid] at this; exact this⟩
theorem range_up2 {w w' : World} {g o : Nat} {cs : List Value} (h : w.rangeAt g o cs) (hb : Below w.heap.size w w') : w'.rangeAt g o cs := fun j v hj => (hb.cell (World.block_lt_of_cell? _ _ (h j v hj))).trans (h j v hj)
set_option maxRecDepth 20000 in
set_option maxHeartbeats 4000000 in
theorem tadd_first (p b : Nat) (t : Int) (xs : List Value) (hx : xs.length = 2) (h1 : ∀ u ∈ xs, u.oneCell' = true) (w : World) (hp : w.heap[p]? = some (.cells #[.slice none 0 0] 25 (0, 0))) (hr : w.rangeAt b 0 xs) :
    Calls Try.prog 10 #[.pointer (some ⟨p, 0, none⟩), .agg #[.int .u64 t, .int .i64 1, .slice (some ⟨b, 0, none⟩) 2 2]] w fun e w' => ∃ g cap A c, e = .returned (.int .i64 0) ∧ But p w w' ∧ w.heap.size ≤ g ∧ w'.heap[p]? = some (.cells #[.slice (some ⟨g, 0, none⟩) 1 cap] 25 (0, 0)) ∧ At0 w' g (rowc t 1 (.slice A 2 c)) ∧ w'.ownsRow w.heap.size 35 1 (.slice A 2 c) 2 xs := by
  have hf := Lib.hid (fun w h => tfind_nil p t w h)
  have hc := Lib.hid (fun w h => copied_any t 1 b 0 2 2 xs hx h1 (by omega) w h)
  have hi := Lib.hid (fun h A c w hh => tinsert_nil h t 1 A 2 c w hh)
  have hlp := lt_of_get hp
  unfold FlOut at hc
  clear h1 hx
  go_enter Try.func10, Try.ntmps10
  go_upto_region 1 with (fail)
  refine name_wp (fun w1 => Below w.heap.size w w1 ∧ w1.heap[p]? = some (.cells #[.slice none 0 0] 25 (0, 0)) ∧ w1.heap[w.heap.size]? = some (.cells #[.int .u64 t, .int .i64 1, .slice (some ⟨b, 0, none⟩) 2 2] 29 (0, 0)) ∧ w1.rangeAt b 0 xs)
    ⟨(Below.refl _ _).alloc (Nat.le_refl _) _, alloc_keeps hp, alloc_at rfl, range_up2 hr ((Below.refl _ _).alloc (Nat.le_refl _) _)⟩ ?_
  clear hp hr
  rintro w1 ⟨hb, hp, kx, hr⟩
  obtain ⟨x0, x1, x2, _, _, _⟩ := blk3t kx
  obtain ⟨c0, _⟩ := blk1t hp
  go_wp2_with fail
  refine call_then (many_one _) ?_
  intro w2 hv
  clear x0 x1 x2 c0
  replace hb := below_next hb hb.size hv
  replace hp := keeps hv hp
  try replace kx := keeps hv kx
  try replace hr := range_up2 hr hv
  try replace kh := keeps hv kh
  try replace hown := owns_upn hown hv
  clear hv
  obtain ⟨x0, x1, x2, _, _, _⟩ := blk3t kx
  obtain ⟨c0, _⟩ := blk1t hp
  go_wp2
  refine wp_region_flow0 (by kernel_rfl) (by kernel_rfl) ?_
  intro ι _ φ hφ
  have c1 := fun i => (blk1t (keeps (hφ.old i) hp)).1
  repeat (go_big_quiet_step (fail))
  refine wpQuiet_nil ?_
  intro w3 hv
  clear x0 x1 x2 c0 c1
  replace hb := below_next hb hb.size hv
  replace hp := keeps hv hp
  try replace kx := keeps hv kx
  try replace hr := range_up2 hr hv
  try replace kh := keeps hv kh
  try replace hown := owns_upn hown hv
  clear hv
  obtain ⟨x0, x1, x2, _, _, _⟩ := blk3t kx
  obtain ⟨c0, _⟩ := blk1t hp
  go_wp2_with fail
  refine call_then (hf.out _ hp) ?_
  intro w4 hv
  clear x0 x1 x2 c0
  replace hb := below_next hb hb.size hv
  replace hp := keeps hv hp
  try replace kx := keeps hv kx
  try replace hr := range_up2 hr hv
  try replace kh := keeps hv kh
  try replace hown := owns_upn hown hv
  clear hv
  go_wp2
  refine seg_start 12 (by kernel_rfl) (by decide) ?_
  intro v0 hv
  replace hb := below_next hb hb.size hv
  replace hp := keeps hv hp
  try replace kx := keeps hv kx
  try replace hr := range_up2 hr hv
  try replace kh := keeps hv kh
  try replace hown := owns_upn hown hv
  clear hv
  refine seg_batch 5 [0, 1, 2, 3, 4, 5, 6] (by kernel_rfl) rfl (by kernel_rfl) (by kernel_rfl) (by kernel_rfl) ?_
  apply Exists.intro
  refine ⟨fun ι _ φ hφ => ?_, fun v1 hv => ?_⟩
  · have c0 := fun i => (blk1t (keeps (hφ.old i) hp)).1
    have k3 : At0 v0 w.heap.size [.int .u64 t, .int .i64 1, .slice (some ⟨b, 0, none⟩) 2 2] := At0.of_block kx
    repeat (refine pick_step rfl ?_; first
      | (refine quiet_load_mid _ _ _ 0 _ _ rfl rfl rfl (mid_family hφ k3) Try.underlying29 rfl (by kernel_rfl) ?_; simp only [Act.put, List.setIfInBounds_toArray, List.set_cons_succ, List.set_cons_zero])
      | go_big_quiet_step (fail))
    exact pick_end
  replace hb := below_next hb hb.size hv
  replace hp := keeps hv hp
  try replace kx := keeps hv kx
  try replace hr := range_up2 hr hv
  try replace kh := keeps hv kh
  try replace hown := owns_upn hown hv
  clear hv
  refine seg_one 7 _ (by decide) rfl (by kernel_rfl) ?_
  intro v2 K hv hK
  replace hb := below_next hb hb.size hv
  replace hp := keeps hv hp
  try replace kx := keeps hv kx
  try replace hr := range_up2 hr hv
  try replace kh := keeps hv kh
  try replace hown := owns_upn hown hv
  clear hv
  replace hK := Lib.hid hK
  go_simp
  refine (hc.out _ hr).mono ?_
  rintro e v3 ⟨A, c, rfl, hv, hown⟩
  refine hK.out _ _ hv ?_
  clear hK K
  have hgp : w.heap.size ≤ v2.heap.size := hb.size
  replace hb := below_next hb hb.size hv
  replace hp := keeps hv hp
  try replace kx := keeps hv kx
  try replace hr := range_up2 hr hv
  try replace kh := keeps hv kh
  try replace hown := owns_upn hown hv
  clear hv
  refine seg_one 8 _ (by decide) rfl (by kernel_rfl) ?_
  intro v4 K hv hK
  replace hb := below_next hb hb.size hv
  replace hp := keeps hv hp
  try replace kx := keeps hv kx
  try replace hr := range_up2 hr hv
  try replace kh := keeps hv kh
  try replace hown := owns_upn hown hv
  clear hv
  replace hK := Lib.hid hK
  go_simp
  have hv := (Below.refl v4.heap.size v4).alloc (Nat.le_refl _) (.cells #[.int .u64 t, .int .i64 1, .slice A 2 c] 29 (0, 0))
  refine hK.out _ _ hv ?_
  clear hK K
  replace hb := below_next hb hb.size hv
  replace hp := keeps hv hp
  try replace kx := keeps hv kx
  try replace hr := range_up2 hr hv
  try replace kh := keeps hv kh
  try replace hown := owns_upn hown hv
  clear hv
  have kh := alloc_at (w := v4) (k := v4.heap.size) (o := .cells #[.int .u64 t, .int .i64 1, .slice A 2 c] 29 (0, 0)) rfl
  generalize v4.alloc (.cells #[.int .u64 t, .int .i64 1, .slice A 2 c] 29 (0, 0)) = v5 at *
  refine seg_one 9 _ (by decide) rfl (by kernel_rfl) ?_
  intro v6 K hv hK
  replace hb := below_next hb hb.size hv
  replace hp := keeps hv hp
  try replace kx := keeps hv kx
  try replace hr := range_up2 hr hv
  try replace kh := keeps hv kh
  try replace hown := owns_upn hown hv
  clear hv
  replace hK := Lib.hid hK
  go_simp
  refine (hi.out _ _ _ _ (At0.of_block (cs := rowc t 1 (.slice A 2 c)) kh)).mono ?_
  rintro e v7 ⟨g, cap, rfl, hv, hg, hat⟩
  refine hK.out _ _ hv ?_
  clear hK K kh kx
  have hgg : w.heap.size ≤ g := Nat.le_trans hb.size hg
  replace hb := below_next hb hb.size hv
  replace hp := keeps hv hp
  try replace kx := keeps hv kx
  try replace hr := range_up2 hr hv
  try replace kh := keeps hv kh
  try replace hown := owns_upn hown hv
  clear hv
  refine seg_batch 0 [10, 11] (by kernel_rfl) rfl (by kernel_rfl) (by kernel_rfl) (by kernel_rfl) ?_
  apply Exists.intro
  refine ⟨fun ι _ φ hφ => ?_, fun v8 hv => ?_⟩
  · repeat (refine pick_step rfl ?_; go_big_quiet_step (fail))
    exact pick_end
  replace hat := hat.up hv
  replace hb := below_next hb hb.size hv
  replace hp := keeps hv hp
  try replace kx := keeps hv kx
  try replace hr := range_up2 hr hv
  try replace kh := keeps hv kh
  try replace hown := owns_upn hown hv
  clear hv
  refine seg_tail (by kernel_rfl) ?_
  intro v9 hv
  replace hat := hat.up hv
  replace hb := below_next hb hb.size hv
  replace hp := keeps hv hp
  try replace kx := keeps hv kx
  try replace hr := range_up2 hr hv
  try replace kh := keeps hv kh
  try replace hown := owns_upn hown hv
  clear hv
  obtain ⟨c0, f0⟩ := blk1t hp
  simp only [List.drop_succ_cons, List.drop_zero]
  go_wp2
  refine calm_normal ?_
  go_wp2
  go_ret
  have hgp2 : g ≠ p := by omega
  refine ⟨g, cap, A, c, rfl, (But.of_below hb).set _, hgg, (store1 hp (o := 0) (v := .slice (some ⟨g, 0, none⟩) 1 cap)).trans rfl, hat.far hgp2, ?_⟩
  exact owns_mono1 (hown.kept (w' := v9.setCell ⟨p, 0, none⟩ (.slice (some ⟨g, 0, none⟩) 1 cap)) (row := some p) ⟨rfl, rfl, rfl, by simp [World.setCell], fun b hb hne => Below.heap_setCell _ _ _ _ (fun e => hne (by rw [show b = p from e]))⟩ (.inr (fun e => by have := (hown.lt _ e).1; omega))) hgp
end Go.Proofs.Ytnaakklfbegldaa
