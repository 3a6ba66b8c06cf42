/-
  A table's rows: a row more.
-/
import Derived.Test.YtnaakklfbegldaaTcD
import Derived.Deep.Cut
import Derived.Deep.DeepCutAuto
import Derived.Deep.CutBlock
namespace Go.Proofs.Ytnaakklfbegldaa
open Go.RowKit Flow
set_option linter.unusedVariables false
set_option linter.unusedSimpArgs false

theorem tnth_ins {l : List TR} {s : TR} {k : Nat} (hk : k ≤ l.length) (j : Nat) : tnth (l.take k ++ s :: l.drop k) j = if j < k then tnth l j else if j = k then s else tnth l (j - 1) := by
  unfold tnth
  rw [List.getD_eq_getElem?_getD]
  by_cases h1 : j < k
  · rw [if_pos h1, List.getElem?_append_left (by rw [List.length_take]; omega), List.getElem?_take_of_lt h1, List.getD_eq_getElem?_getD]
  · rw [if_neg h1, List.getElem?_append_right (by rw [List.length_take]; omega), List.length_take, Nat.min_eq_left hk]
    by_cases h2 : j = k
    · rw [if_pos h2, h2, Nat.sub_self]
      rfl
    · rw [if_neg h2, show j - k = (j - 1 - k) + 1 by omega, List.getElem?_cons_succ, List.getElem?_drop, List.getD_eq_getElem?_getD, show k + (j - 1 - k) = j - 1 by omega]
theorem tlen_ins {l : List TR} {s : TR} {k : Nat} (hk : k ≤ l.length) : (l.take k ++ s :: l.drop k).length = l.length + 1 := by
  rw [List.length_append, List.length_cons, List.length_take, List.length_drop]
  omega
theorem trising_ins {l : List TR} {s : TR} {k : Nat} (hr : TRising l) (hk : TPlace l s.t k) (hB : thasB l s.t k = false) : TRising (l.take k ++ s :: l.drop k) := by
  have hgt : ∀ i, k ≤ i → i < l.length → s.t < (tnth l i).t := fun i h1 h2 => by
    have hkl : k < l.length := by omega
    have hkk : s.t < (tnth l k).t := by
      have a := hk.hi k (Nat.le_refl _) hkl
      unfold thasB at hB
      rw [decide_eq_true hkl, Bool.true_and] at hB
      have := of_decide_eq_false hB
      omega
    by_cases he : i = k
    · rw [he]; exact hkk
    · have := hr k i (by omega) h2
      omega
  intro i j hij hj
  rw [tlen_ins hk.le] at hj
  rw [tnth_ins hk.le, tnth_ins hk.le]
  by_cases h1 : j < k
  · rw [if_pos (by omega), if_pos h1]
    exact hr i j hij (by have := hk.le; omega)
  · rw [if_neg h1]
    by_cases h2 : j = k
    · rw [if_pos h2, if_pos (by omega)]
      exact hk.lo i (by omega)
    · rw [if_neg h2]
      by_cases h3 : i < k
      · rw [if_pos h3]
        exact hr i (j - 1) (by omega) (by omega)
      · rw [if_neg h3]
        by_cases h4 : i = k
        · rw [if_pos h4]
          exact hgt (j - 1) (by omega) (by omega)
        · rw [if_neg h4]
          exact hr (i - 1) (j - 1) (by omega) (by omega)
/-- All but an index is as it was. -/
structure KeptX (p : Nat) (v : Value) (w w' : World) : Prop where
  os : w'.os = w.os
  tape : w'.tape = w.tape
  output : w'.output = w.output
  size : w.heap.size ≤ w'.heap.size
  block : ∀ b, b < w.heap.size → b ≠ p → some b ≠ v.ownBlock → w'.heap[b]? = w.heap[b]?
theorem KeptX.next {p : Nat} {v : Value} {w w1 w2 : World} (h : KeptX p v w w1) (hb : Below w1.heap.size w1 w2) : KeptX p v w w2 :=
  ⟨hb.os.trans h.os, hb.tape.trans h.tape, hb.output.trans h.output, Nat.le_trans h.size hb.size, fun b h1 h2 h3 => (hb.block b (Nat.lt_of_lt_of_le h1 h.size)).trans (h.block b h1 h2 h3)⟩
theorem KeptX.set {p i : Nat} {v : Value} {w w1 : World} (h : KeptX p v w w1) (u : Value) : KeptX p v w (w1.setCell ⟨p, i, none⟩ u) :=
  ⟨h.os, h.tape, h.output, by simpa [World.setCell] using h.size, fun b h1 h2 h3 => (Below.heap_setCell _ _ _ _ h2).trans (h.block b h1 h2 h3)⟩
theorem mid_familyS {gb : Nat → Prop} {W : World} {ι : Type} {φ : ι → World} (hφ : FamilyS gb W ι φ) {b o : Nat} {cs : List Value} (h : W.rangeAt b o cs) (hg : gb b) : ∀ w, (∃ i, w = φ i) → w.rangeAt b o cs := fun w ⟨i, e⟩ j v hj => by
  subst e
  have h1 := h j v hj
  have hlt := World.block_lt_of_cell? _ _ h1
  exact (World.cell?_of_block (w := W) (a := ⟨b, o + j, none⟩) ((hφ.old i).block b hlt hg)).trans h1
theorem insert_any (base : Nat) (v : Value) (n i : Nat) (hi : i ≤ n) (hn : n ≤ 1000) (xs : List Value) (w : World) (hown : w.ownsRow base 29 3 v n xs) (h1 : ∀ u ∈ xs, u.oneCell' = true) (h : Nat) (nv : List Value) (hnl : nv.length = 3) (hh : w.heap[h]? = some (.cells nv.toArray 29 (0, 0))) (hhv : v.ownBlock ≠ some h) (h1v : ∀ u ∈ nv, u.oneCell' = true) (hb : base ≤ w.heap.size) :
    Calls Try.prog 27 #[v, .int .i64 i, .slice (some ⟨h, 0, none⟩) 1 1] w (InsOut base v (n + 1) (xs.take (i * 3) ++ nv ++ xs.drop (i * 3)) w) := by
  by_cases he : i = n
  · subst he
    rw [List.take_of_length_le (by rw [hown.1]; exact Nat.le_refl _), List.drop_of_length_le (by rw [hown.1]; exact Nat.le_refl _), List.append_nil]
    exact insert_end base v i hn xs w hown h nv hnl hh h1v hb
  · rcases hown.2 with ⟨rfl, rfl⟩ | ⟨g, cap, cur, rfl, hg1, hg2, hg3, hg4, hg5, hg6⟩
    · omega
    · by_cases hr : n + 1 ≤ cap
      · exact insert_room base g cap n i cur xs hn (by omega) hr hg4 hg1 w hg2 hg5 hg6 h1 h nv hnl hh (fun e => hhv (by rw [e]; rfl)) h1v
      · exact insert_grow base g cap n i cur xs hn (by omega) hg3 (by omega) w hb hg2 hg5 hg6 h1 h nv hnl hh h1v
set_option maxRecDepth 20000 in
set_option maxHeartbeats 4000000 in
theorem tadd_exists (p base : Nat) (l : List TR) (a : Option Addr) (L cap : Nat) (t m : Int) (B : Option Addr) (n cB : Nat) (xs : List Value) (w : World) (h : Tb p base l (.slice a L cap) w) (hN : News w B n cB 1 xs)
    (hm : (decide (1 ≤ m) && decide (m ≤ 256)) = true) (hn : n ≤ 64) (hL : L < 32) (hl : 0 < l.length) (hz : (tnth l 0).xs.length = n) (k : Nat) (hk : TPlace l t k) (hB : thasB l t k = true) :
    Calls Try.prog 10 #[.pointer (some ⟨p, 0, none⟩), .agg #[.int .u64 t, .int .i64 m, .slice B n cB]] w fun e w' => e = .returned (.int .i64 29) ∧ Below w.heap.size w w' := by
  obtain ⟨hLl, g, rfl, _⟩ := first_cell h hl
  have e1 : ¬ (64 : Int) < (n : Int) := by omega
  have e2 : ¬ (32 : Int) ≤ (L : Int) := by omega
  have e3 : (0 : Int) < (L : Int) := by omega
  have e4 : 0 < L := by omega
  have hfc := Lib.hid (fun w (h : Tb p base l (.slice (some ⟨g, 0, none⟩) L cap) w) => (first_cell h hl).2)
  have hf := Lib.hid (fun w h => tfind_any p base l (.slice (some ⟨g, 0, none⟩) L cap) w h t k hk)
  rw [hB] at hf
  rw [hz] at hfc
  replace hLl := Lib.hid hLl
  replace hl := Lib.hid hl
  clear hk hB hz
  have hma := Lib.hid (fun w => many_any m w)
  go_enter Try.func10, Try.ntmps10
  go_upto_region 1 with (fail)
  refine name_wp (fun w1 => Below w.heap.size w w1 ∧ Tb p base l (.slice (some ⟨g, 0, none⟩) L cap) w1 ∧ w1.heap[w.heap.size]? = some (.cells #[.int .u64 t, .int .i64 m, .slice B n cB] 29 (0, 0)) ∧ News w1 B n cB 1 xs)
    ⟨(Below.refl _ _).alloc (Nat.le_refl _) _, h.below ((Below.refl _ _).alloc (Nat.le_refl _) _), alloc_at rfl, hN.up ((Below.refl _ _).alloc (Nat.le_refl _) _)⟩ ?_
  clear h hN
  rintro w1 ⟨hb, h, kx, hN⟩
  obtain ⟨x0, x1, x2, _, _, _⟩ := blk3t kx
  obtain ⟨c0, _⟩ := blk1t h.hp
  go_wp2_with fail
  refine call_then (hma.out _) ?_
  intro w2 hv
  clear x0 x1 x2 c0 hma
  replace hb := below_next hb hb.size hv
  replace h := h.below hv
  replace kx := keeps hv kx
  replace hN := hN.up hv
  clear hv
  rw [hm]
  obtain ⟨x0, x1, x2, _, _, _⟩ := blk3t kx
  obtain ⟨c0, _⟩ := blk1t h.hp
  obtain ⟨g', hgg, c2⟩ := hfc.out _ h
  obtain rfl : g = g' := by cases hgg; rfl
  clear hgg
  go_wp2
  refine wp_region_flow0 (by kernel_rfl) (by kernel_rfl) ?_
  intro ι _ φ hφ
  have d0 := fun i => (blk1t (keeps (hφ.old i) h.hp)).1
  have d2 := fun i => ((hφ.old i).cell (World.block_lt_of_cell? _ _ c2)).trans c2
  have y2 := fun i => (blk3t (keeps (hφ.old i) kx)).2.2.1
  repeat (go_big_quiet_step (fail))
  refine wpQuiet_nil ?_
  intro w3 hv
  clear d0 d2 y2 x0 x1 x2 c0 c2
  replace hb := below_next hb hb.size hv
  replace h := h.below hv
  replace kx := keeps hv kx
  replace hN := hN.up hv
  clear hv
  obtain ⟨x0, x1, x2, _, _, _⟩ := blk3t kx
  go_wp2_with fail
  refine call_then (hf.out _ h) ?_
  intro w4 hv
  clear x0 x1 x2
  replace hb := below_next hb hb.size hv
  replace h := h.below hv
  replace kx := keeps hv kx
  replace hN := hN.up hv
  clear hv
  go_wp2
  go_ret
  exact ⟨rfl, hb⟩
end Go.Proofs.Ytnaakklfbegldaa
