/-
  Reports by their ids: one more.
-/
import Derived.Test.YtkngcffgoimjkaaRpB
namespace Go.Proofs.Ytkngcffgoimjkaa
open Go.RowKit Flow
set_option linter.unusedVariables false
set_option linter.unusedSimpArgs false

theorem nth_ins {l : List Sn} {s : Sn} {k : Nat} (hk : k ≤ l.length) (j : Nat) : nth (l.take k ++ s :: l.drop k) j = if j < k then nth l j else if j = k then s else nth l (j - 1) := by
  unfold nth
  rw [List.getD_eq_getElem?_getD]
  by_cases h1 : j < k
  · rw [if_pos h1, List.getElem?_append_left (by rw [List.length_take]; omega), List.getElem?_take_of_lt h1, List.getD_eq_getElem?_getD]
  · rw [if_neg h1, List.getElem?_append_right (by rw [List.length_take]; omega), List.length_take, Nat.min_eq_left hk]
    by_cases h2 : j = k
    · rw [if_pos h2, h2, Nat.sub_self]
      rfl
    · rw [if_neg h2, show j - k = (j - 1 - k) + 1 by omega, List.getElem?_cons_succ, List.getElem?_drop, List.getD_eq_getElem?_getD, show k + (j - 1 - k) = j - 1 by omega]
theorem len_ins {l : List Sn} {s : Sn} {k : Nat} (hk : k ≤ l.length) : (l.take k ++ s :: l.drop k).length = l.length + 1 := by
  rw [List.length_append, List.length_cons, List.length_take, List.length_drop]
  omega
theorem ok_ins {l : List Sn} {s : Sn} {k : Nat} (h : AllOK l) (hs : SnOK s) : AllOK (l.take k ++ s :: l.drop k) := fun x hx => by
  rcases List.mem_append.1 hx with h1 | h1
  · exact h x (List.mem_of_mem_take h1)
  · rcases List.mem_cons.1 h1 with rfl | h1
    · exact hs
    · exact h x (List.mem_of_mem_drop h1)
theorem rising_ins {l : List Sn} {s : Sn} {k : Nat} (hok : AllOK l) (hs : SnOK s) (hr : Rising l) (hk : Place l s.id k) (hB : hasB l s.id k = false) : Rising (l.take k ++ s :: l.drop k) := by
  have hgt : ∀ i, k ≤ i → i < l.length → idLess s.id (nth l i).id = true := fun i h1 h2 => by
    have hkk : idLess s.id (nth l k).id = true := by
      have hkl : k < l.length := by omega
      cases hq : idLess s.id (nth l k).id with
      | true => rfl
      | false =>
        have he := idLess_total ((hok _ (nth_mem hkl)).len.trans hs.len.symm) (hk.hi k (Nat.le_refl _) hkl) hq
        unfold hasB at hB
        rw [decide_eq_true hkl, Bool.true_and, he] at hB
        simp at hB
    by_cases he : i = k
    · rw [he]; exact hkk
    · exact idLess_trans (hs.len.trans (hok _ (nth_mem (show k < l.length by omega))).len.symm) ((hok _ (nth_mem (show k < l.length by omega))).len.trans (hok _ (nth_mem h2)).len.symm) hkk (hr k i (by omega) h2)
  intro i j hij hj
  rw [len_ins hk.le] at hj
  rw [nth_ins hk.le, nth_ins hk.le]
  by_cases h1 : j < k
  · rw [if_pos (by omega), if_pos h1]
    exact hr i j hij (by have := hk.le; omega)
  · rw [if_neg h1]
    by_cases h2 : j = k
    · rw [if_pos h2, if_pos (by omega)]
      exact hk.lo i (by omega)
    · rw [if_neg h2]
      by_cases h3 : i < k
      · rw [if_pos h3]
        exact hr i (j - 1) (by omega) (by omega)
      · rw [if_neg h3]
        by_cases h4 : i = k
        · rw [if_pos h4]
          exact hgt (j - 1) (by omega) (by omega)
        · rw [if_neg h4]
          exact hr (i - 1) (j - 1) (by omega) (by omega)
/-- All but an index is as it was. -/
structure KeptX (p : Nat) (v : Value) (w w' : World) : Prop where
  os : w'.os = w.os
  tape : w'.tape = w.tape
  output : w'.output = w.output
  size : w.heap.size ≤ w'.heap.size
  block : ∀ b, b < w.heap.size → b ≠ p → some b ≠ v.ownBlock → w'.heap[b]? = w.heap[b]?
theorem KeptX.next {p : Nat} {v : Value} {w w1 w2 : World} (h : KeptX p v w w1) (hb : Below w1.heap.size w1 w2) : KeptX p v w w2 :=
  ⟨hb.os.trans h.os, hb.tape.trans h.tape, hb.output.trans h.output, Nat.le_trans h.size hb.size, fun b h1 h2 h3 => (hb.block b (Nat.lt_of_lt_of_le h1 h.size)).trans (h.block b h1 h2 h3)⟩
theorem KeptX.set {p i : Nat} {v : Value} {w w1 : World} (h : KeptX p v w w1) (u : Value) : KeptX p v w (w1.setCell ⟨p, i, none⟩ u) :=
  ⟨h.os, h.tape, h.output, by simpa [World.setCell] using h.size, fun b h1 h2 h3 => (Below.heap_setCell _ _ _ _ h2).trans (h.block b h1 h2 h3)⟩
theorem mid_familyS {gb : Nat → Prop} {W : World} {ι : Type} {φ : ι → World} (hφ : FamilyS gb W ι φ) {b o : Nat} {cs : List Value} (h : W.rangeAt b o cs) (hg : gb b) : ∀ w, (∃ i, w = φ i) → w.rangeAt b o cs := fun w ⟨i, e⟩ j v hj => by
  subst e
  have h1 := h j v hj
  have hlt := World.block_lt_of_cell? _ _ h1
  exact (World.cell?_of_block (w := W) (a := ⟨b, o + j, none⟩) ((hφ.old i).block b hlt hg)).trans h1
-- Add, up to the look whether it is there.
set_option maxRecDepth 20000 in
set_option maxHeartbeats 2000000 in
theorem add_has (p : Nat) (lim : Int) (base : Nat) (l : List Sn) (v : Value) (w : World) (h : Ix p lim base l v w) (s : Sn) (hs : SnOK s) (t0 : 0 ≤ s.t) (t1 : s.t ≤ 1099511627776) (k : Nat) (hk : Place l s.id k) (hB : hasB l s.id k = true) :
    Calls Try.prog 16 #[.pointer (some ⟨p, 0, none⟩), s.val] w fun e w' => e = .returned (.int .i64 14) ∧ Below w.heap.size w w' := by
  unfold Sn.val
  unfold seenv
  obtain ⟨xs, t, c⟩ := s
  have hxl : xs.length = 16 := hs.len
  simp only at t0 t1
  show Calls Try.prog 16 #[.pointer (some ⟨p, 0, none⟩), .agg (scells xs t c).toArray] w _
  have hf := Lib.hid (fun w h => find_any p lim base l (v) w h xs hxl hs.bl k hk)
  rw [show hasB l xs k = true from hB] at hf
  clear hs hk hB
  unfold idv at *
  go_enter Try.func16, Try.ntmps16
  go_upto_region 1 with (fail)
  refine name_wp (fun w1 => Below w.heap.size w w1 ∧ Ix p lim base l (v) w1 ∧ At0 w1 w.heap.size (scells xs t c)) ⟨(Below.refl _ _).alloc (Nat.le_refl _) _, h.below ((Below.refl _ _).alloc (Nat.le_refl _) _), At0.of_block (alloc_at rfl)⟩ ?_
  clear h
  rintro w1 ⟨hb, h, kx⟩
  have htc := kx.time hxl
  go_wp2_with (first | (refine wpList_load_mid rfl _ _ rfl _ 0 rfl _ _ kx.id Try.underlying29 rfl (by rw [List.length_map, hxl]; kernel_rfl) ?_))
  refine call_then (hf.out _ h) ?_
  clear htc
  intro w2 hb2
  replace hb := below_next hb hb.size hb2
  replace h := h.below hb2
  replace kx := kx.up hb2
  clear hb2
  clear h kx
  go_wp2
  go_ret
  exact ⟨rfl, hb⟩
set_option maxRecDepth 20000 in
set_option maxHeartbeats 4000000 in
theorem add_new (p : Nat) (lim : Int) (base : Nat) (l : List Sn) (v : Value) (w : World) (h : Ix p lim base l v w) (s : Sn) (hs : SnOK s) (t0 : 0 ≤ s.t) (t1 : s.t ≤ 1099511627776) (k : Nat) (hk : Place l s.id k) (hB : hasB l s.id k = false) (hroom : (l.length : Int) < lim) (hlim : lim ≤ 256) :
    Calls Try.prog 16 #[.pointer (some ⟨p, 0, none⟩), s.val] w fun e w' => ∃ v', e = .returned (.int .i64 0) ∧ KeptX p v w w' ∧ Ix p lim base (l.take k ++ s :: l.drop k) v' w' ∧ (v'.ownBlock = v.ownBlock ∨ ∃ g, v'.ownBlock = some g ∧ w.heap.size ≤ g) := by
  obtain ⟨n, hn⟩ : ∃ n, l.length = n := ⟨_, rfl⟩
  obtain ⟨a, cap, rfl⟩ : ∃ a cap, v = .slice a n cap := by
    rcases ix_slice h with ⟨rfl, rfl⟩ | ⟨g, cap, rfl, _⟩
    · exact ⟨none, 0, by rw [← hn]; rfl⟩
    · exact ⟨_, cap, by rw [hn]⟩
  have hkn : k ≤ n := by rw [← hn]; exact hk.le
  have hri := Lib.hid (rising_ins h.ok hs h.up hk hB)
  have hoi := Lib.hid (ok_ins (k := k) h.ok hs)
  have hll := Lib.hid ((len_ins (s := s) hk.le).trans (by rw [hn]))
  have hro := Lib.hid (rowS_ins h.ok s k)
  have hnv := Lib.hid (Sn.cells_len hs)
  obtain ⟨l2, hl2⟩ : ∃ l2, l.take k ++ s :: l.drop k = l2 := ⟨_, rfl⟩
  rw [hl2] at hri hoi hll hro ⊢
  have hrm := Lib.hid (fun w hp => room_any p a n cap lim (by omega) hlim (by have := h.few; omega) w hp)
  have hin := Lib.hid (fun (hh : Nat) (w : World) (hrow : w.ownsRow base 32 18 (.slice a n cap) n (rowS l)) (kh : w.heap[hh]? = some (.cells s.cells.toArray 32 (0, 0))) (hne : (Value.slice a n cap).ownBlock ≠ some hh) (hb : base ≤ w.heap.size) =>
    insert_any base (.slice a n cap) n k hkn (by have := h.few; omega) (rowS l) w hrow rowS_one hh s.cells hnv.out kh hne (fun u hu => one_scells u hu) hb)
  have hl0 : ((lim - (n : Int)) == 0) = false := by simp; omega
  have hn1 : n + 1 ≤ 256 := by omega
  unfold InsOut at hin
  unfold Sn.val
  unfold seenv
  obtain ⟨xs, t, c⟩ := s
  have hxl : xs.length = 16 := hs.len
  simp only at t0 t1
  show Calls Try.prog 16 #[.pointer (some ⟨p, 0, none⟩), .agg (scells xs t c).toArray] w _
  have hf := Lib.hid (fun w h => find_any p lim base l (.slice a n cap) w h xs hxl hs.bl k hk)
  rw [show hasB l xs k = false from hB] at hf
  rw [show (Sn.cells ⟨xs, t, c⟩) = scells xs t c from rfl] at hin hnv hro
  rw [hro.out] at hin
  clear hs hk hB hl2 hro hroom
  replace hn := Lib.hid hn
  have hW : Hid (some w.heap.size ≠ (Value.slice a n cap).ownBlock) := Lib.hid (fun e => by have := (h.row.lt _ e.symm).2; omega)
  unfold idv at *
  go_enter Try.func16, Try.ntmps16
  go_upto_region 1 with (fail)
  refine name_wp (fun w1 => Below w.heap.size w w1 ∧ Ix p lim base l (.slice a n cap) w1 ∧ At0 w1 w.heap.size (scells xs t c)) ⟨(Below.refl _ _).alloc (Nat.le_refl _) _, h.below ((Below.refl _ _).alloc (Nat.le_refl _) _), At0.of_block (alloc_at rfl)⟩ ?_
  clear h
  rintro w1 ⟨hb, h, kx⟩
  have htc := kx.time hxl
  go_wp2_with (first | (refine wpList_load_mid rfl _ _ rfl _ 0 rfl _ _ kx.id Try.underlying29 rfl (by rw [List.length_map, hxl]; kernel_rfl) ?_))
  refine call_then (hf.out _ h) ?_
  clear htc
  intro w2 hb2
  replace hb := below_next hb hb.size hb2
  replace h := h.below hb2
  replace kx := kx.up hb2
  clear hb2
  go_wp2_with fail
  refine call_then (hrm.out _ h.hp) ?_
  intro w3 hv
  replace hb := below_next hb hb.size hv
  replace h := h.below hv
  try replace kx := kx.up hv
  try replace kh := keeps hv kh
  clear hv
  go_wp2
  have hpo : some p ≠ (Value.slice a n cap).ownBlock := fun e => by have := (h.row.lt p e.symm).1; have := h.pb; omega
  refine segS_start (gb := fun b => some b ≠ (Value.slice a n cap).ownBlock) 11 (by kernel_rfl) (by decide) ?_
  intro v0 hv
  replace hb := below_next hb hb.size hv
  replace h := h.below hv
  try replace kx := kx.up hv
  try replace kh := keeps hv kh
  clear hv
  have hwo : some w.heap.size ≠ (Value.slice a n cap).ownBlock := hW.out
  refine segS_batch 4 [0, 1, 2, 3, 4, 5, 6] (by kernel_rfl) rfl (by kernel_rfl) (by kernel_rfl) (by kernel_rfl) ?_
  apply Exists.intro
  refine ⟨fun ι _ φ hφ => ?_, fun v1 hv => ?_⟩
  · have c0 := fun i => (blk2 ((hφ.old i).keeps h.hp hpo)).1
    repeat (refine pick_step rfl ?_; first
      | (refine quiet_load_mid _ _ _ 0 _ _ rfl rfl rfl (mid_familyS hφ kx hwo) Try.underlying32 rfl (by rw [scells_length hxl]; kernel_rfl) ?_; simp only [Act.put, List.setIfInBounds_toArray, List.set_cons_succ, List.set_cons_zero])
      | go_big_quiet_step (fail))
    exact pick_end
  replace hb := below_next hb hb.size hv
  replace h := h.below hv
  try replace kx := kx.up hv
  try replace kh := keeps hv kh
  clear hv
  refine segS_one 7 _ (by decide) rfl (by kernel_rfl) ?_
  intro v2 K hv hK
  replace hb := below_next hb hb.size hv
  replace h := h.below hv
  try replace kx := kx.up hv
  try replace kh := keeps hv kh
  clear hv
  replace hK := Lib.hid hK
  have hl := scells_length hxl t c
  go_simp
  rw [build_one _ _ (by rw [hl]; rfl)]
  have hv := (Below.refl v2.heap.size v2).alloc (Nat.le_refl _) (.cells (scells xs t c).toArray 32 (0, 0))
  refine hK.out _ _ (HeldS.of_below hv) ?_
  clear hK K hl
  have hgh : (Value.slice a n cap).ownBlock ≠ some v2.heap.size := fun e => by have := (h.row.lt _ e).2; omega
  replace hb := below_next hb hb.size hv
  replace h := h.below hv
  try replace kx := kx.up hv
  try replace kh := keeps hv kh
  clear hv
  have kh := alloc_at (w := v2) (k := v2.heap.size) (o := .cells (scells xs t c).toArray 32 (0, 0)) rfl
  generalize v2.alloc (.cells (scells xs t c).toArray 32 (0, 0)) = v3 at *
  refine segS_one 8 _ (by decide) rfl (by kernel_rfl) ?_
  intro v4 K hv hK
  replace hb := below_next hb hb.size hv
  replace h := h.below hv
  try replace kx := kx.up hv
  try replace kh := keeps hv kh
  clear hv
  replace hK := Lib.hid hK
  go_simp
  refine (hin.out _ _ (by have := h.row; rw [hn.out] at this; exact this) kh hgh h.bs).mono ?_
  rintro e v5 ⟨vn, rfl, hgr, hrow5, hown5⟩
  refine hK.out _ _ ⟨hgr.os, hgr.tape, hgr.output, hgr.size, fun b hb hg => hgr.block b hb hg⟩ ?_
  clear hK K kh kx
  have hp5 : v5.heap[p]? = some (.cells #[.slice a n cap, .int .i64 lim] 60 (0, 0)) := (hgr.block p (lt_of_get h.hp) hpo).trans h.hp
  have hk5 : KeptX p (.slice a n cap) w v5 := ⟨hgr.os.trans hb.os, hgr.tape.trans hb.tape, hgr.output.trans hb.output, Nat.le_trans hb.size hgr.size, fun b h1 _ h3 => (hgr.block b (Nat.lt_of_lt_of_le h1 hb.size) h3).trans (hb.block b h1)⟩
  have hbs5 := Nat.le_trans h.bs hgr.size
  have how5 : vn.ownBlock = (Value.slice a n cap).ownBlock ∨ ∃ g, vn.ownBlock = some g ∧ w.heap.size ≤ g := hown5.imp id (fun ⟨g, e1, e2⟩ => ⟨g, e1, Nat.le_trans hb.size e2⟩)
  have hpb := h.pb
  clear hgr hb h hown5
  obtain ⟨g9, c9, rfl⟩ : ∃ g9 c9, vn = .slice (some ⟨g9, 0, none⟩) (n + 1) c9 := by
    rcases hrow5.2 with ⟨_, h0⟩ | ⟨g9, c9, cur, e, _⟩
    · exact absurd h0 (by omega)
    · exact ⟨g9, c9, e⟩
  have hg9 : g9 ≠ p := fun e => by have := (hrow5.lt g9 rfl).1; omega
  replace hk5 := Lib.hid hk5
  replace how5 := Lib.hid how5
  refine segS_batch 0 [9, 10] (by kernel_rfl) rfl (by kernel_rfl) (by kernel_rfl) (by kernel_rfl) ?_
  apply Exists.intro
  refine ⟨fun ι _ φ hφ => ?_, fun v6 hv => ?_⟩
  · repeat (refine pick_step rfl ?_; go_big_quiet_step (fail))
    exact pick_end
  replace hp5 := keeps hv hp5
  replace hrow5 := owns_up hrow5 hv
  replace hbs5 := Nat.le_trans hbs5 hv.size
  replace hk5 := Lib.hid (hk5.out.next hv)
  clear hv
  refine segS_tail (by kernel_rfl) ?_
  intro v7 hv
  replace hp5 := keeps hv hp5
  replace hrow5 := Lib.hid (owns_up hrow5 hv)
  replace hbs5 := Nat.le_trans hbs5 hv.size
  replace hk5 := Lib.hid (hk5.out.next hv)
  clear hv
  obtain ⟨c0, c1, f0, f1⟩ := blk2 hp5
  simp only [List.drop_succ_cons, List.drop_zero]
  go_wp2
  refine calm_normal ?_
  go_wp2
  go_ret
  have hrow9 := hrow5.out.kept (w' := v7.setCell ⟨p, 0, none⟩ (.slice (some ⟨g9, 0, none⟩) (n + 1) c9)) (row := some p) ⟨rfl, rfl, rfl, by simp [World.setCell], fun b hb hne => Below.heap_setCell _ _ _ _ (fun e => hne (by rw [show b = p from e]))⟩ (.inr (fun e => hg9 (Option.some.inj e)))
  refine ⟨_, rfl, hk5.out.set _, ⟨(store1 hp5 (o := 0) (v := .slice (some ⟨g9, 0, none⟩) (n + 1) c9)).trans rfl, ?_, hpb, by simpa [World.setCell] using hbs5, hoi.out, hri.out, by rw [hll.out]; exact hn1⟩, how5.out⟩
  rw [hll.out]
  exact hrow9
end Go.Proofs.Ytkngcffgoimjkaa
