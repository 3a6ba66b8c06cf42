/-
  Wires: what is asked is noted.
-/
import Derived.Test.YtebgfelbffgnbaaGreatDoorPfA
import Derived.Test.YtebgfelbffgnbaaGreatDoorDE
namespace Go.Proofs.YtebgfelbffgnbaaGreatDoor
open Go.RowKit Flow F
set_option linter.unusedVariables false
set_option linter.unusedSimpArgs false
attribute [local go_sem] eql_elem

/-- What wires own. -/
def ownW (P G n : Nat) (R : Nat → Nat) (b : Nat) : Prop := b = P ∨ b = G ∨ ∃ i, i < n ∧ b = R i
/-- A list of numbers noted as so many-th. -/
def noted (V : Nat → Nat → Int) (k : Nat) (xs : List Int) (j : Nat) (i t : Nat) : Int := if t = k ∧ i < j then xs.getD i 0 else V i t
theorem Moved.set_own {o o' : Nat → Prop} {w w' : World} (h : Moved o o' w w') {p : Addr} (hp : o p.block) (v : Value) : Moved o o' w (w'.setCell p v) :=
  ⟨h.os, h.tape, h.output, by simpa [World.setCell] using h.size, fun k hk hn => ⟨(Below.heap_setCell _ _ _ _ (fun e => hn (by rw [e]; exact hp))).trans (h.keep k hk hn).1, (h.keep k hk hn).2⟩⟩
theorem Moved.set_own2 {o o' : Nat → Prop} {w w' : World} (h : Moved o o' w w') {p : Addr} (hp : o p.block) (v : Value) : Moved o o' w (w'.setCell p v) := h.set_own hp v
def NoteOut (P G n D : Nat) (R : Nat → Nat) (V : Nat → Nat → Int) (k : Nat) (xs : List Int) (w : World) (e : Ending) (w' : World) : Prop :=
  e = .returned (.int .i64 ((k + 1 : Nat) : Int)) ∧ Moved (ownW P G n R) (ownW P G n R) w w' ∧ Wp P G n D R (noted V (k + 1) xs n) n ((k + 1 : Nat) : Int) w'
set_option maxRecDepth 20000 in
set_option maxHeartbeats 4000000 in
theorem note_any (P G n D : Nat) (R : Nat → Nat) (V : Nat → Nat → Int) (k : Nat) (hk : k + 1 < D) (hD : D ≤ 1024) (hn : n ≤ 100) (xs : List Int) (hl : xs.length = n) (hx : ElemsOK xs) (g : Nat) (w : World) (hg : Row w g xs) (hgo : ¬ ownW P G n R g) (h : Wp P G n D R V n (k : Int) w) :
    Calls Tryz.prog 63 #[.pointer (some ⟨P, 0, none⟩), .slice (some ⟨g, 0, none⟩) n n] w (NoteOut P G n D R V k xs w) := by
  unfold NoteOut
  obtain ⟨c0, c1, c2⟩ := h.cellP
  obtain ⟨K, hK⟩ : ∃ K, k + 1 = K := ⟨_, rfl⟩
  have hKe : (k : Int) + 1 = (K : Int) := by omega
  have k2 : (K : Int) < (D : Int) := by omega
  have k3 : (D : Int) ≤ 1024 := by omega
  have k4 : (0 : Int) ≤ (K : Int) := by omega
  have k5 : (k : Int) ≤ 1024 := by omega
  have hKD : K < D := by omega
  rw [hK]
  have hgP : g ≠ P := fun e => hgo (.inl e)
  have hgR : Hid (∀ i, i < n → g ≠ R i) := Lib.hid (fun i hij e => hgo (.inr (.inr ⟨i, hij, e⟩)))
  have hw1 : Wp P G n D R V n ((k : Int) + 1) (w.setCell ⟨P, 1, none⟩ (.int .i64 ((k : Int) + 1))) := h.calls _
  have hm1 : Moved (ownW P G n R) (ownW P G n R) w (w.setCell ⟨P, 1, none⟩ (.int .i64 ((k : Int) + 1))) := (Moved.refl _ w).set_own (.inl rfl) _
  have hg1 : Row (w.setCell ⟨P, 1, none⟩ (.int .i64 ((k : Int) + 1))) g xs := store_far hg hgP
  replace hw1 := Lib.hid hw1
  replace hm1 := Lib.hid hm1
  replace hg1 := Lib.hid hg1
  replace hl := Lib.hid hl
  replace hx := Lib.hid hx
  have hKe2 := Lib.hid hKe
  clear hg h hgo hK hKe
  go_enter Tryz.func63, Tryz.ntmps63
  go_upto_region 2 with (fail)
  refine name_wp (fun w1 => Wp P G n D R V n ((k : Int) + 1) w1 ∧ Moved (ownW P G n R) (ownW P G n R) w w1 ∧ Row w1 g xs) ⟨hw1.out, hm1.out, hg1.out⟩ ?_
  clear hw1 hm1 hg1 c0 c1 c2
  rintro w1 ⟨hw1, hm1, hg1⟩
  rw [hKe2.out] at hw1 ⊢
  have hw1 : Hid (Wp P G n D R (noted V K xs 0) n (K : Int) w1) := Lib.hid (hw1.congr (fun i t _ _ => by unfold noted; rw [if_neg (fun h => absurd h.2 (Nat.not_lt_zero _))]))
  replace hm1 := Lib.hid hm1
  replace hg1 := Lib.hid hg1
  go_upto_region 3 with (fail)
  go_loopw [16] (fun i wr => ∃ j : Nat, i = .int .i64 (j : Int) ∧ j ≤ n ∧ Hid (Wp P G n D R (noted V K xs j) n (K : Int) wr) ∧ Hid (Moved (ownW P G n R) (ownW P G n R) w wr) ∧ Hid (Row wr g xs)) (fun i _ => n - (intOf i).toNat)
  case atStart => exact ⟨0, rfl, Nat.zero_le _, hw1, hm1, hg1⟩
  case round =>
    clear hw1 hm1 hg1
    obtain ⟨j, rfl, hj, hw, hm, hg⟩ := hrel
    by_cases hlt : j < n
    · have j0 : (0 : Int) ≤ (j : Int) := by omega
      have j1 : (j : Int) < (n : Int) := by omega
      have hc0 := hg.out.lo (k := j) (by rw [hl.out]; exact hlt)
      have hc1 := hg.out.hi (k := j) (by rw [hl.out]; exact hlt)
      have hz := hx.out.at_ (k := j) (by rw [hl.out]; exact hlt)
      obtain ⟨z, hzz⟩ : ∃ z, xs.getD j 0 = z := ⟨_, rfl⟩
      have hz4 : Hid (∀ i t, (if i = j ∧ t = K then z else noted V K xs j i t) = noted V K xs (j + 1) i t) := Lib.hid (fun i t => by
        rw [← hzz]
        unfold noted
        by_cases e : i = j ∧ t = K
        · rw [if_pos e, if_pos ⟨e.2, by omega⟩, e.1]
        · rw [if_neg e]
          by_cases e2 : t = K ∧ i < j
          · rw [if_pos e2, if_pos ⟨e2.1, by omega⟩]
          · rw [if_neg e2, if_neg (fun h => (by by_cases e3 : i = j; exact e ⟨e3, h.1⟩; exact e2 ⟨h.1, by omega⟩))])
      rw [hzz] at hc0 hc1 hz
      clear hzz
      go_upto_region 5 with (fail)
      refine name_wp (fun w1 => Wp P G n D R (noted V K xs j) n (K : Int) w1 ∧ Moved (ownW P G n R) (ownW P G n R) w w1 ∧ Row w1 g xs ∧ Holds w1 wr.heap.size z) ⟨hw.out.up ((Below.refl _ _).alloc (Nat.le_refl _) _), hm.out.below ((Below.refl _ _).alloc (Nat.le_refl _) _), hg.out.alloc _, alloc_at rfl⟩ ?_
      clear hw hm hg hc0 hc1
      rintro w2 ⟨hw, hm, hg, kc⟩
      obtain ⟨q, hq⟩ : ∃ q, wr.heap.size = q := ⟨_, rfl⟩
      rw [hq] at kc ⊢
      clear hq
      refine wp_region_flow1 13 (by kernel_rfl) (by kernel_rfl) (by kernel_rfl) ?_
      apply Exists.intro
      refine ⟨fun ι _ φ hφ => ?_, fun w3 hv => ?_⟩
      · have q1 := fun i => hφ.cell hw.cellP.1 i
        have q2 := fun i => hφ.cell hw.cellP.2.1 i
        have q3 := fun i => hφ.cell (hw.cellG hlt hlt) i
        have q4 := fun i => (blk2 (keeps (hφ.old i) kc)).1
        have q5 := fun i => (blk2 (keeps (hφ.old i) kc)).2.1
        simp only [List.take_succ_cons, List.take_zero]
        repeat (go_big_quiet_step (fail))
        exact wpQuiet_nil rfl
      replace hw := hw.up hv
      replace hm := hm.below hv
      replace hg := hg.up hv
      clear hv kc w2
      simp only [List.drop_succ_cons, List.drop_zero]
      have hrow := hw.r j hlt
      have hput := hw.put hlt hKD z
      have s0 := hrow.lo (k := K) (by rw [lst_length]; exact hKD)
      have s1 := hrow.hi (k := K) (by rw [lst_length]; exact hKD)
      have f0 := hrow.free (K * 2)
      have f1 := hrow.free (K * 2 + 1)
      have h9 : Wp P G n D R (noted V K xs (j + 1)) n (K : Int) ((w3.setCell ⟨R j, K * 2, none⟩ (.int .u64 (lo z))).setCell ⟨R j, K * 2 + 1, none⟩ (.int .u64 (hi z))) := hput.congr (fun i t _ _ => hz4.out i t)
      have hm9 := (hm.set_own (p := ⟨R j, K * 2, none⟩) (.inr (.inr ⟨j, hlt, rfl⟩)) (.int .u64 (lo z))).set_own2 (p := ⟨R j, K * 2 + 1, none⟩) (.inr (.inr ⟨j, hlt, rfl⟩)) (.int .u64 (hi z))
      have hg9 : Row ((w3.setCell ⟨R j, K * 2, none⟩ (.int .u64 (lo z))).setCell ⟨R j, K * 2 + 1, none⟩ (.int .u64 (hi z))) g xs := hg.far (hgR.out j hlt)
      replace h9 := Lib.hid h9
      replace hm9 := Lib.hid hm9
      replace hg9 := Lib.hid hg9
      clear hw hm hg hrow hput hz4
      go_wp2
      exact ⟨⟨j + 1, by first | rfl | go_num, by omega, h9, hm9, hg9⟩, by simp [intOf]; omega⟩
    · obtain rfl : n = j := by omega
      obtain ⟨c0, c1, c2⟩ := hw.out.cellP
      go_wp2
      go_ret
      exact ⟨rfl, hm.out, hw.out⟩
end Go.Proofs.YtebgfelbffgnbaaGreatDoor
/-
  Wires: laid, with their seeds: the walk.
-/
namespace Go.Proofs.YtebgfelbffgnbaaGreatDoor
open Go.RowKit Flow F
set_option linter.unusedVariables false
set_option linter.unusedSimpArgs false
attribute [local go_sem] eql_elem

theorem zero_rowP (w : World) (N : Nat) : Row (w.alloc (.cells (ecells (List.replicate N 0)).toArray 28)) w.heap.size (lst (fun _ => 0) N) := by
  have e : lst (fun _ => 0) N = List.replicate N 0 := by
    apply List.ext_getElem (by simp [lst])
    intro i h1 h2
    simp [lst]
  rw [e]
  exact alloc_at rfl
/-- A wire with its seed alone. -/
def sdV (f : Int) (sd : List Int) (i t : Nat) : Int := if t = 0 then add f 0 (sd.getD i 0) else 0
/-- What newWires makes. -/
def WiresNew (f : Int) (sd : List Int) (n D : Nat) (w : World) (e : Ending) (w' : World) : Prop :=
  ∃ P G R, e = .returned (.pointer (some ⟨P, 0, none⟩)) ∧ Below w.heap.size w w' ∧ Wp P G n D R (sdV f sd) n 0 w' ∧ w.heap.size ≤ P ∧ w.heap.size ≤ G ∧ ∀ i, i < n → w.heap.size ≤ R i
def sdP (f : Int) (sd : List Int) (j i t : Nat) : Int := if i < j then sdV f sd i t else 0
structure Nw (w0 : World) (f : Int) (sd : List Int) (P G n D : Nat) (R : Nat → Nat) (m : Nat) (V : Nat → Nat → Int) (wr : World) : Prop where
  below : Below w0.heap.size w0 wr
  wp : Wp P G n D R V m 0 wr
  lowP : w0.heap.size ≤ P
  lowG : w0.heap.size ≤ G
  lowR : ∀ i, i < m → w0.heap.size ≤ R i
theorem Nw.up {w0 : World} {f : Int} {sd : List Int} {P G n D m : Nat} {R : Nat → Nat} {V : Nat → Nat → Int} {wr w' : World} (h : Nw w0 f sd P G n D R m V wr) (hb : Below wr.heap.size wr w') : Nw w0 f sd P G n D R m V w' :=
  ⟨below_next h.below h.below.size hb, h.wp.up hb, h.lowP, h.lowG, h.lowR⟩
theorem Nw.cells {w0 : World} {f : Int} {sd : List Int} {P G n D m : Nat} {R : Nat → Nat} {V : Nat → Nat → Int} {wr : World} (h : Nw w0 f sd P G n D R m V wr) : wr.cell? ⟨P, 0, none⟩ = some (.slice (some ⟨G, 0, none⟩) n n) := h.wp.cellP.1
theorem Nw.cellN {w0 : World} {f : Int} {sd : List Int} {P G n D m : Nat} {R : Nat → Nat} {V : Nat → Nat → Int} {wr : World} (h : Nw w0 f sd P G n D R m V wr) {i : Nat} (him : i < n) : ∃ v, wr.cell? ⟨G, i, none⟩ = some v ∧ wr.frozen? ⟨G, i, none⟩ = false := by
  have hg := h.wp.g
  have h2 := gcells_at (fun i => if i < m then Value.slice (some ⟨R i, 0, none⟩) D D else .slice none 0 0) him
  exact ⟨_, by simp only [World.cell?, hg]; simpa using h2, h.wp.freeG i⟩
set_option maxRecDepth 20000 in
set_option maxHeartbeats 4000000 in
theorem newWires_any {f : Int} (hf : f = 1 ∨ f = 2) (sd : List Int) (A : Option Addr) (n c D : Nat) (hl : sd.length = n) (hn : n ≤ 100) (hD : D ≤ 1024) (hD1 : 1 ≤ D) (hs : ElemsOK sd) (w : World) (hA : ElemsAt w A sd) :
    Calls Tryz.prog 61 #[.int .u8 f, .slice A n c, .int .i64 (D : Int)] w (WiresNew f sd n D w) := by
  have hmk := make_lists n (by omega)
  have hme := make_elems D (by omega)
  have fb := fb_of hf
  have hsm := fun (z : Int) (hz : 0 ≤ z ∧ z < 340282366920938463463374607431768211456) B w (hB : ElemsAt w B [z]) => fsum_gen f (add f) [z] B 1 (fun y hy => by rw [List.mem_singleton.1 hy]; exact hz) (by unfold maxLen; simp) fb.hadd w hB
  have hsf : ∀ z, List.foldl (add f) 0 [z] = add f 0 z := fun z => rfl
  simp only [hsf] at hsm
  replace hsm := Lib.hid hsm
  have hA0 := Lib.hid hA
  replace hs := Lib.hid hs
  replace hl := Lib.hid hl
  clear hsf fb hA
  unfold WiresNew
  go_enter Tryz.func61, Tryz.ntmps61
  go_upto_region 2 with (fail)
  have h0 : Nw w f sd (w.heap.size + 1) w.heap.size n D (fun _ => 0) 0 (sdV f sd) ((w.alloc (.cells (gcells (fun _ => .slice none 0 0) n) 25 (0, 0))).alloc (.cells #[.slice (some ⟨w.heap.size, 0, none⟩) n n, .int .i64 0] 99 (0, 0))) := by
    refine ⟨((Below.refl _ _).alloc (Nat.le_refl _) _).alloc (by simp) _, ⟨alloc_at (by simp), ?_, fun i hi => absurd hi (Nat.not_lt_zero _), fun i j hi => absurd hi (Nat.not_lt_zero _)⟩, Nat.le_succ _, Nat.le_refl _, fun i hi => absurd hi (Nat.not_lt_zero _)⟩
    simp only [Nat.not_lt_zero, if_false]
    exact alloc_keeps (alloc_at rfl)
  refine name_wp (fun w1 => Nw w f sd (w.heap.size + 1) w.heap.size n D (fun _ => 0) 0 (sdV f sd) w1) h0 ?_
  clear h0
  intro w1 h
  obtain ⟨P, hP⟩ : ∃ P, w.heap.size + 1 = P := ⟨_, rfl⟩
  rw [hP] at h
  obtain ⟨G, hG⟩ : ∃ G, w.heap.size = G := ⟨_, rfl⟩
  have h : Nw w f sd P G n D (fun _ => 0) 0 (sdP f sd 0) w1 := ⟨h.below, by rw [← hG]; exact h.wp.congr (fun i t hi => absurd hi (Nat.not_lt_zero _)), h.lowP, by omega, fun i hi => absurd hi (Nat.not_lt_zero _)⟩
  replace h := Lib.hid h
  have hP1 := Lib.hid hP
  rw [hP, hG]
  clear hP
  replace hG := Lib.hid hG
  go_upto_region 3 with (fail)
  go_loopw [17] (fun i wr => ∃ (j : Nat) (R : Nat → Nat), i = .int .i64 (j : Int) ∧ j ≤ n ∧ Hid (Nw w f sd P G n D R j (sdP f sd j) wr)) (fun i _ => n - (intOf i).toNat)
  case atStart => exact ⟨0, _, rfl, Nat.zero_le _, h⟩
  case round =>
    clear h
    obtain ⟨j, R, rfl, hj, h⟩ := hrel
    replace h := h.out
    by_cases hlt : j < n
    · have j0 : (0 : Int) ≤ (j : Int) := by omega
      have j1 : (j : Int) < (n : Int) := by omega
      obtain ⟨p, o, rfl, hc0, hc1⟩ := (hA0.out.up h.below) j (by rw [hl.out]; exact hlt)
      have hz := hs.out.at_ (k := j) (by rw [hl.out]; exact hlt)
      have hze : Hid (add f 0 (sd.getD j 0) = sdV f sd j 0) := Lib.hid (by unfold sdV; rw [if_pos rfl])
      generalize sd.getD j 0 = z at *
      have hsz := Lib.hid (hsm.out z hz)
      replace h := Lib.hid h
      go_upto_region 5 with (fail)
      refine name_wp (fun w1 => Nw w f sd P G n D R j (sdP f sd j) w1 ∧ ∃ c, Holds w1 c z ∧ c = wr.heap.size) ⟨h.out.up ((Below.refl _ _).alloc (Nat.le_refl _) _), _, alloc_at rfl, rfl⟩ ?_
      clear h hc0 hc1
      rintro w2 ⟨h, c, kc, rfl⟩
      obtain ⟨q, hq⟩ : ∃ q, wr.heap.size = q := ⟨_, rfl⟩
      rw [hq] at kc ⊢
      clear hq
      refine seg_start 7 (by kernel_rfl) (by decide) ?_
      intro v0 hv
      replace h := h.up hv
      replace kc := kc.up hv
      clear hv
      refine seg_batch 1 [0, 1, 2, 3, 4, 5] (by kernel_rfl) rfl (by kernel_rfl) (by kernel_rfl) (by kernel_rfl) ?_
      apply Exists.intro
      refine ⟨fun ι _ φ hφ => ?_, fun v1 hv => ?_⟩
      · have q1 := fun i => hφ.cell h.cells i
        repeat (refine pick_step rfl ?_; go_big_quiet_step (fail))
        exact pick_end
      replace h := h.up hv
      replace kc := kc.up hv
      clear hv
      refine seg_one 6 _ (by decide) rfl (by kernel_rfl) ?_
      intro v2 K' hv hK
      replace h := h.up hv
      replace kc := kc.up hv
      clear hv
      replace hK := Lib.hid hK
      go_simp
      refine hK.out _ _ ((Below.refl _ _).alloc (Nat.le_refl _) _) ?_
      clear hK
      have hrz : Row (v2.alloc (.cells (ecells (List.replicate D 0)).toArray 28)) v2.heap.size (lst (fun _ => 0) D) := zero_rowP v2 D
      have hnr : Hid (∀ i, i < j → R i ≠ v2.heap.size) := Lib.hid (fun i hij e => by have := h.wp.lt (.inr (.inr ⟨i, hij, rfl⟩)); omega)
      have hnp : P ≠ v2.heap.size := fun e => by have := h.wp.lt (.inl rfl); omega
      have hng : G ≠ v2.heap.size := fun e => by have := h.wp.lt (.inr (.inl rfl)); omega
      have hrl := h.below.size
      have hcr : q ≠ v2.heap.size := fun e => by have := lt_of_get kc; omega
      replace h := h.up ((Below.refl _ _).alloc (Nat.le_refl _) (.cells (ecells (List.replicate D 0)).toArray 28))
      replace kc := kc.alloc (.cells (ecells (List.replicate D 0)).toArray 28)
      generalize (v2.alloc (.cells (ecells (List.replicate D 0)).toArray 28)) = v3 at *
      obtain ⟨r, hr⟩ : ∃ r, v2.heap.size = r := ⟨_, rfl⟩
      rw [hr] at hrz hnr hnp hng hrl hcr ⊢
      clear hr
      refine seg_tail (by kernel_rfl) ?_
      intro v4 hv
      replace hrz := hrz.up hv
      replace h := h.up hv
      replace kc := kc.up hv
      clear hv
      clear v0 v1 v2
      simp only [List.drop_succ_cons, List.drop_zero]
      obtain ⟨v, e0, e1⟩ := h.cellN hlt
      have e2 := h.cells
      have h5 : Nw w f sd P G n D (fun i => if i = j then r else R i) (j + 1) (sdP f sd j) (v4.setCell ⟨G, j, none⟩ (.slice (some ⟨r, 0, none⟩) D D)) :=
        ⟨h.below.setCell (p := ⟨G, j, none⟩) h.lowG _, h.wp.add hrz hnr.out hnp hng (fun t => by unfold sdP; rw [if_neg (Nat.lt_irrefl _)]), h.lowP, h.lowG, fun i hij => by
          show w.heap.size ≤ if i = j then r else R i
          by_cases e : i = j
          · rw [if_pos e]; exact hrl
          · rw [if_neg e]; exact h.lowR i (by omega)⟩
      have kc5 : Holds (v4.setCell ⟨G, j, none⟩ (.slice (some ⟨r, 0, none⟩) D D)) q z := store_far kc (fun e => by
        have h1 := h.wp.g
        have e2 : q = G := e
        rw [← e2, show v4.heap[q]? = _ from kc] at h1
        injection h1 with h1
        injection h1 with _ h2 _
        exact absurd h2 (by decide))
      obtain ⟨R', hR'⟩ : ∃ R' : Nat → Nat, (fun i => if i = j then r else R i) = R' := ⟨_, rfl⟩
      have hRj : Hid (R' j = r) := Lib.hid (by rw [← hR']; exact if_pos rfl)
      rw [hR'] at h5
      clear hR'
      replace h5 := Lib.hid h5
      replace kc5 := Lib.hid kc5
      clear h kc hnr hnp hng hrz hrl hcr
      go_wp2
      refine calm_normal ?_
      go_upto_region 6 with (fail)
      refine name_wp (fun w1 => Nw w f sd P G n D R' (j + 1) (sdP f sd j) w1 ∧ Holds w1 q z) ⟨h5.out, kc5.out⟩ ?_
      clear h5 kc5 e0 e1 e2 v4 v3
      rintro v4 ⟨h, kc⟩
      refine seg_start 11 (by kernel_rfl) (by decide) ?_
      intro v0 hv
      replace h := h.up hv
      replace kc := kc.up hv
      clear hv
      refine seg_batch 2 [0, 1, 2, 3, 4, 5, 6, 7, 8] (by kernel_rfl) rfl (by kernel_rfl) (by kernel_rfl) (by kernel_rfl) ?_
      apply Exists.intro
      refine ⟨fun ι _ φ hφ => ?_, fun v1 hv => ?_⟩
      · have q1 := fun i => hφ.cell h.cells i
        have q2 := fun i => hφ.cell (h.wp.cellG (Nat.lt_succ_self j) hlt) i
        rw [hRj.out] at q2
        have q3 := fun i => (blk2 (keeps (hφ.old i) kc)).1
        have q4 := fun i => (blk2 (keeps (hφ.old i) kc)).2.1
        repeat (refine pick_step rfl ?_; go_big_quiet_step (fail))
        exact pick_end
      replace h := h.up hv
      replace kc := kc.up hv
      clear hv
      refine seg_one 9 _ (by decide) rfl (by kernel_rfl) ?_
      intro v2 K' hv hK
      replace h := h.up hv
      replace kc := kc.up hv
      clear hv
      replace hK := Lib.hid hK
      go_simp
      refine hK.out _ _ ((Below.refl _ _).alloc (Nat.le_refl _) _) ?_
      clear hK
      have hrz : Row (v2.alloc (.cells #[.int .u64 (lo z), .int .u64 (hi z)] 28)) v2.heap.size [z] := (show Row _ _ _ from alloc_at rfl)
      replace h := h.up ((Below.refl _ _).alloc (Nat.le_refl _) (.cells #[.int .u64 (lo z), .int .u64 (hi z)] 28))
      replace kc := kc.alloc (.cells #[.int .u64 (lo z), .int .u64 (hi z)] 28)
      generalize (v2.alloc (.cells #[.int .u64 (lo z), .int .u64 (hi z)] 28)) = v3 at *
      generalize v2.heap.size = gz at *
      refine seg_batch 0 [10] (by kernel_rfl) rfl (by kernel_rfl) (by kernel_rfl) (by kernel_rfl) ?_
      apply Exists.intro
      refine ⟨fun ι _ φ hφ => ?_, fun v6 hv => ?_⟩
      · have hs2 := Lib.hid (fun i => hsz.out (some ⟨gz, 0, none⟩) (φ i) ((hrz.up (hφ.old i)).elems))
        repeat (refine pick_step rfl ?_; go_big_quiet_step ((go_at_call 65; exact flow_call hφ (hs2.out _))))
        exact pick_end
      replace h := h.up hv
      replace kc := kc.up hv
      clear hv
      refine seg_tail (by kernel_rfl) ?_
      intro v5 hv
      replace h := h.up hv
      replace kc := kc.up hv
      clear hv
      clear hrz v0 v1 v2 v3 v6 hsz
      simp only [List.drop_succ_cons, List.drop_zero]
      have hrow := h.wp.r j (Nat.lt_succ_self j)
      have hput := h.wp.put (Nat.lt_succ_self j) (t := 0) (by omega) (add f 0 z)
      have hlr := h.lowR j (Nat.lt_succ_self j)
      rw [hRj.out] at hrow hput hlr
      have s0 := hrow.lo (k := 0) (by rw [lst_length]; omega)
      have s1 := hrow.hi (k := 0) (by rw [lst_length]; omega)
      have f0 := hrow.free 0
      have f1 := hrow.free (0 * 2 + 1)
      have h9 : Nw w f sd P G n D R' (j + 1) (sdP f sd (j + 1)) ((v5.setCell ⟨r, 0 * 2, none⟩ (.int .u64 (lo (add f 0 z)))).setCell ⟨r, 0 * 2 + 1, none⟩ (.int .u64 (hi (add f 0 z)))) :=
        ⟨below_store2' h.below hlr, hput.congr (fun i t hij _ => by
          unfold sdP
          by_cases e : i = j
          · subst e
            rw [if_neg (Nat.lt_irrefl _), if_pos (Nat.lt_succ_self _)]
            by_cases e2 : t = 0
            · subst e2; rw [if_pos ⟨rfl, rfl⟩]; exact hze.out
            · rw [if_neg (fun h => e2 h.2)]; unfold sdV; rw [if_neg e2]
          · rw [if_neg (fun h => e h.1), if_pos (by omega), if_pos hij]), h.lowP, h.lowG, h.lowR⟩
      rw [Nat.zero_mul] at h9 s0 s1
      rw [Nat.zero_mul, Nat.zero_add] at f1
      rw [Nat.zero_add] at h9 s1
      replace h9 := Lib.hid h9
      clear h kc hrow hput hRj hze
      go_wp2
      refine calm_normal ?_
      go_wp2
      exact ⟨⟨j + 1, R', by first | rfl | go_num, by omega, h9⟩, by simp [intOf]; omega⟩
    · obtain rfl : n = j := by omega
      replace h := Lib.hid h
      go_wp2
      go_ret
      exact ⟨P, G, R, rfl, h.out.below, h.out.wp.congr (fun i t hij _ => by unfold sdP; rw [if_pos hij]), h.out.lowP, h.out.lowG, h.out.lowR⟩
end Go.Proofs.YtebgfelbffgnbaaGreatDoor
