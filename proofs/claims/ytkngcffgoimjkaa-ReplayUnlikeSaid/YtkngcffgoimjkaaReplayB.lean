/-
  An index of reports: the first one put; it again.
-/
import Derived.Test.YtkngcffgoimjkaaReplayA
namespace Go.Proofs.Ytkngcffgoimjkaa
open Go.RowKit Flow
set_option linter.unusedVariables false

theorem one_scells {xs : List Int} {t c : Int} : ∀ u ∈ scells xs t c, u.oneCell' = true := fun u hu => by
  rcases List.mem_append.1 hu with h | h
  · obtain ⟨x, _, rfl⟩ := List.mem_map.1 h; rfl
  · rcases List.mem_cons.1 h with rfl | h
    · rfl
    · obtain rfl := List.mem_singleton.1 h; rfl
theorem info_seen : (Try.prog.info? 32).map (fun i => (i.zero.map (fun z => z.cells.size), i.size, i.bytes)) = some (some 18, 18, 32) := by kernel_rfl
theorem info_parts' {P : Program} {t : TypeId} {s n b : Nat} (h : (P.info? t).map (fun i => (i.zero.map (fun z => z.cells.size), i.size, i.bytes)) = some (some s, n, b)) : ∃ i z, P.info? t = some i ∧ i.zero = some z ∧ i.size = n ∧ i.bytes = b ∧ z.cells.size = s := by
  cases hi : P.info? t with
  | none => rw [hi] at h; cases h
  | some i =>
    rw [hi] at h
    simp only [Option.map_some, Option.some.injEq, Prod.mk.injEq] at h
    obtain ⟨h1, h2, h3⟩ := h
    cases hz : i.zero with
    | none => rw [hz] at h1; cases h1
    | some z => rw [hz] at h1; exact ⟨i, z, rfl, hz, h2, h3, by simpa using h1⟩
set_option maxHeartbeats 2000000 in
theorem insert_nil (h : Nat) (xs : List Int) (t c : Int) (hx : xs.length = 16) (w : World) (hh : At0 w h (scells xs t c)) : Calls Try.prog 31 #[.slice none 0 0, .int .i64 0, .slice (some ⟨h, 0, none⟩) 1 1] w fun e w' => ∃ g cap, e = .returned (.slice (some ⟨g, 0, none⟩) 1 cap) ∧ Below w.heap.size w w' ∧ w.heap.size ≤ g ∧ At0 w' g (scells xs t c) := by
  obtain ⟨i0, z0, hinf, hz0, hz1, hz2, hz3⟩ := info_parts' info_seen
  have hown : w.ownsRow w.heap.size 32 18 (.slice none 0 0) 0 [] := World.ownsRow_nil _ _ _ _
  have hl := scells_length hx t c
  have hone := @one_scells xs t c
  have hn : ∀ j u, (scells xs t c)[j]? = some u → w.cell? ((⟨h, 0, none⟩ : Addr).add j) = some u := fun j u hj => by rw [Addr.add_mid]; exact hh j u hj
  replace hh := Lib.hid hh
  generalize scells xs t c = cs at *
  replace hl := Lib.hid hl
  replace hone := Lib.hid hone
  replace hn := Lib.hid hn
  replace hown := Lib.hid hown
  go_enter Try.func31, Try.ntmps31
  go_wp2_with (at_builtin; refine wpList_append_own _ rfl _ _ 27 rfl w.heap.size 32 i0 z0 18 32 Try.underlying27 hinf hz0 hz1 hz2 hz3 (by decide) _ _ _ rfl hown.out ⟨_, 0, none⟩ 1 1 cs rfl hl.out hn.out hone.out (by unfold maxLen; omega) (by omega) (Nat.le_refl _) ?_; intro v1 w6 hown6 hg6 hnn; have hb6 := (Below.refl w.heap.size w).grown hg6 (Nat.le_refl _) (fun k hk => by cases hk); clear hg6)
  rw [List.nil_append] at hown6
  obtain ⟨g, cap, rfl, hg⟩ : ∃ g cap, v1 = .slice (some ⟨g, 0, none⟩) 1 cap ∧ w.heap.size ≤ g := by
    rcases hown6.2 with ⟨_, h0⟩ | ⟨g, cap, cur, e, hbg, _⟩
    · exact absurd h0 (by omega)
    · exact ⟨g, cap, e, hbg⟩
  have hc := hown6.cells (g := g) rfl
  go_ret
  exact ⟨g, cap, rfl, hb6, hg, fun j v hj => by have := hc j v hj; rw [Addr.add_mid] at this; exact this⟩
set_option maxHeartbeats 4000000 in
theorem add_first (p : Nat) (lim : Int) (xs : List Int) (t c : Int) (hx : xs.length = 16) (t0 : 0 ≤ t) (t1 : t ≤ 1099511627776) (l0 : 1 ≤ lim) (l1 : lim ≤ 256) (w : World) (hp : w.heap[p]? = some (.cells #[.slice none 0 0, .int .i64 lim] 60 (0, 0))) :
    Calls Try.prog 16 #[.pointer (some ⟨p, 0, none⟩), seenv xs t c] w fun e w' => ∃ g cap, e = .returned (.int .i64 0) ∧ But p w w' ∧ w.heap.size ≤ g ∧ w'.heap[p]? = some (.cells #[.slice (some ⟨g, 0, none⟩) 1 cap, .int .i64 lim] 60 (0, 0)) ∧ At0 w' g (scells xs t c) := by
  have hf := Lib.hid (fun w h => find_nil p lim xs hx w h)
  have hr := Lib.hid (fun w h => room_any p none 0 0 lim (by omega) l1 (by omega) w h)
  have hi := Lib.hid (fun h w hh => insert_nil h xs t c hx w hh)
  replace l0 : (lim == 0) = false := by simp; omega
  replace l1 := Lib.hid l1
  simp only [Int.natCast_zero, Int.sub_zero] at hr
  have hlp := lt_of_get hp
  unfold seenv
  unfold idv at *
  go_enter Try.func16, Try.ntmps16
  go_upto_region 1 with (fail)
  refine name_wp (fun w1 => Below w.heap.size w w1 ∧ w1.heap[p]? = some (.cells #[.slice none 0 0, .int .i64 lim] 60 (0, 0)) ∧ At0 w1 w.heap.size (scells xs t c)) ⟨(Below.refl _ _).alloc (Nat.le_refl _) _, alloc_keeps hp, At0.of_block (alloc_at rfl)⟩ ?_
  clear hp
  rintro w1 ⟨hb, hp, kx⟩
  have htc := kx.time hx
  go_wp2_with (first | (refine wpList_load_mid rfl _ _ rfl _ 0 rfl _ _ kx.id Try.underlying29 rfl (by rw [List.length_map, hx]; kernel_rfl) ?_))
  refine call_then (hf.out _ hp) ?_
  clear htc
  intro w2 hb2
  replace hb := below_next hb hb.size hb2
  replace hp := keeps hb2 hp
  replace kx := kx.up hb2
  clear hb2
  go_wp2_with fail
  refine call_then (hr.out _ hp) ?_
  intro w3 hb2
  replace hb := below_next hb hb.size hb2
  replace hp := keeps hb2 hp
  replace kx := kx.up hb2
  clear hb2
  go_wp2
  refine seg_start 11 (by kernel_rfl) (by decide) ?_
  intro v0 hv0
  replace hb := below_next hb hb.size hv0
  replace hp := keeps hv0 hp
  replace kx := kx.up hv0
  clear hv0
  refine seg_batch 4 [0, 1, 2, 3, 4, 5, 6] (by kernel_rfl) rfl (by kernel_rfl) (by kernel_rfl) (by kernel_rfl) ?_
  apply Exists.intro
  refine ⟨fun ι _ φ hφ => ?_, fun v1 hv1 => ?_⟩
  · obtain ⟨c0, c1⟩ := hφ.two hp
    repeat (refine pick_step rfl ?_; first
      | (refine quiet_load_mid _ _ _ 0 _ _ rfl rfl rfl (mid_family hφ kx) Try.underlying32 rfl (by rw [scells_length hx]; kernel_rfl) ?_; simp only [Act.put, List.setIfInBounds_toArray, List.set_cons_succ, List.set_cons_zero])
      | go_big_quiet_step (fail))
    exact pick_end
  replace hb := below_next hb hb.size hv1
  replace hp := keeps hv1 hp
  replace kx := kx.up hv1
  clear hv1
  refine seg_one 7 _ (by decide) rfl (by kernel_rfl) ?_
  intro v2 K hv2 hK
  replace hb := below_next hb hb.size hv2
  replace hp := keeps hv2 hp
  replace kx := kx.up hv2
  clear hv2
  replace hK := Lib.hid hK
  have hl := scells_length hx t c
  go_simp
  rw [build_one _ _ (by rw [hl]; rfl)]
  refine hK.out _ _ ((Below.refl _ _).alloc (Nat.le_refl _) _) ?_
  clear hK K hl
  replace hb := hb.alloc hb.size (.cells (scells xs t c).toArray 32 (0, 0))
  replace hp := alloc_keeps (o := .cells (scells xs t c).toArray 32 (0, 0)) hp
  have kh := alloc_at (w := v2) (k := v2.heap.size) (o := .cells (scells xs t c).toArray 32 (0, 0)) rfl
  generalize v2.alloc (.cells (scells xs t c).toArray 32 (0, 0)) = v3 at *
  refine seg_one 8 _ (by decide) rfl (by kernel_rfl) ?_
  intro v4 K hv2 hK
  replace hb := below_next hb hb.size hv2
  replace hp := keeps hv2 hp
  replace kh := keeps hv2 kh
  clear hv2 kx
  replace hK := Lib.hid hK
  go_simp
  refine (hi.out _ _ (At0.of_block kh)).mono ?_
  rintro e v5 ⟨g, cap, rfl, hv5, hg5, hat⟩
  refine hK.out _ _ hv5 ?_
  clear hK K kh
  replace hg5 := Nat.le_trans hb.size hg5
  replace hb := below_next hb hb.size hv5
  replace hp := keeps hv5 hp
  clear hv5
  refine seg_batch 0 [9, 10] (by kernel_rfl) rfl (by kernel_rfl) (by kernel_rfl) (by kernel_rfl) ?_
  apply Exists.intro
  refine ⟨fun ι _ φ hφ => ?_, fun v6 hv6 => ?_⟩
  · repeat (refine pick_step rfl ?_; go_big_quiet_step (fail))
    exact pick_end
  replace hb := below_next hb hb.size hv6
  replace hp := keeps hv6 hp
  replace hat := hat.up hv6
  clear hv6
  refine seg_tail (by kernel_rfl) ?_
  intro v7 hv7
  replace hb := below_next hb hb.size hv7
  replace hp := keeps hv7 hp
  replace hat := hat.up hv7
  clear hv7
  obtain ⟨c0, c1, f0, f1⟩ := blk2 hp
  simp only [List.drop_succ_cons, List.drop_zero]
  go_wp2
  refine calm_normal ?_
  go_wp2
  go_ret
  have hgp : g ≠ p := by omega
  exact ⟨g, cap, rfl, (But.of_below hb).set _, hg5, (store1 hp (o := 0) (v := .slice (some ⟨g, 0, none⟩) 1 cap)).trans rfl, hat.far hgp⟩
set_option maxHeartbeats 2000000 in
theorem add_again (p g cap : Nat) (lim : Int) (xs : List Int) (t c t' c' : Int) (hx : xs.length = 16) (bx : ByteList xs) (t0 : 0 ≤ t) (t1 : t ≤ 1099511627776) (w : World) (hp : w.heap[p]? = some (.cells #[.slice (some ⟨g, 0, none⟩) 1 cap, .int .i64 lim] 60 (0, 0))) (hg : At0 w g (scells xs t' c')) :
    Calls Try.prog 16 #[.pointer (some ⟨p, 0, none⟩), seenv xs t c] w fun e w' => e = .returned (.int .i64 14) ∧ Below w.heap.size w w' := by
  have hf := Lib.hid (fun w h hg => find_hit p g cap lim xs t' c' hx bx w h hg)
  clear bx
  unfold seenv
  unfold idv at *
  go_enter Try.func16, Try.ntmps16
  go_upto_region 1 with (fail)
  refine name_wp (fun w1 => Below w.heap.size w w1 ∧ w1.heap[p]? = some (.cells #[.slice (some ⟨g, 0, none⟩) 1 cap, .int .i64 lim] 60 (0, 0)) ∧ At0 w1 w.heap.size (scells xs t c) ∧ At0 w1 g (scells xs t' c')) ⟨(Below.refl _ _).alloc (Nat.le_refl _) _, alloc_keeps hp, At0.of_block (alloc_at rfl), hg.up ((Below.refl _ _).alloc (Nat.le_refl _) _)⟩ ?_
  clear hp hg
  rintro w1 ⟨hb, hp, kx, hg⟩
  have htc := kx.time hx
  go_wp2_with (first | (refine wpList_load_mid rfl _ _ rfl _ 0 rfl _ _ kx.id Try.underlying29 rfl (by rw [List.length_map, hx]; kernel_rfl) ?_))
  refine call_then (hf.out _ hp hg) ?_
  clear htc
  intro w2 hb2
  replace hb := below_next hb hb.size hb2
  clear hb2
  go_wp2
  go_ret
  exact ⟨rfl, hb⟩
end Go.Proofs.Ytkngcffgoimjkaa
