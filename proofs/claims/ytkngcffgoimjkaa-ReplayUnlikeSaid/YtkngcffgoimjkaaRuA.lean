/-
  ReplayUnlike: the law's own insertion.
-/
import Derived.Test.YtkngcffgoimjkaaRpD
import Derived.Test.YtkngcffgoimjkaaIns
import Derived.Deep.Cut
import Derived.Deep.DeepCutAuto
import Derived.Deep.CutBlock
namespace Go.Proofs.Ytkngcffgoimjkaa
open Go.RowKit Flow
set_option linter.unusedVariables false
set_option linter.unusedSimpArgs false

theorem size_seen : ∀ w', (sizeOf (Try.prog.elem 27)).run Try.prog w' = .ok 18 w' := fun w' => by kernel_rfl
theorem und_seens : Try.prog.underlying 27 = some (.slice (Try.prog.elem 27)) := by kernel_rfl
theorem mid_familyR {gb : Nat} {W : World} {ι : Type} {φ : ι → World} (hφ : FamilyR gb W ι φ) {b o : Nat} {cs : List Value} (h : W.rangeAt b o cs) (hg : b < gb) : ∀ w, (∃ i, w = φ i) → w.rangeAt b o cs := fun w ⟨i, e⟩ j v hj => by
  subst e
  rw [World.cell?_of_block ((hφ.old i).block _ (World.block_lt_of_cell? _ _ (h j v hj)) hg)]
  exact h j v hj
set_option maxHeartbeats 1000000 in
theorem less1_any (xs ys : List Int) (t c t' c' : Int) (hx : xs.length = 16) (hy : ys.length = 16) (w : World) : Calls Try.prog 25 #[seenv xs t c, seenv ys t' c'] w fun e w' => e = .returned (.bool (idLess xs ys)) ∧ Below w.heap.size w w' := by
  have hcmp := Lib.hid (less_any xs ys hx hy)
  unfold seenv
  unfold idv at *
  go_enter Try.func25, Try.ntmps25
  go_upto_region 1 with (fail)
  refine name_wp (fun w1 => Below w.heap.size w w1 ∧ At0 w1 w.heap.size (scells xs t c) ∧ At0 w1 (w.heap.size + 1) (scells ys t' c'))
    ⟨((Below.refl _ _).alloc (Nat.le_refl _) _).alloc (by simp) _, At0.of_block (alloc_keeps (alloc_at rfl)), At0.of_block (alloc_at (by simp))⟩ ?_
  rintro w1 ⟨hb, kx, ky⟩
  go_wp2_with (first | (refine wpList_load_mid rfl _ _ rfl _ 0 rfl _ _ kx.id Try.underlying29 rfl (by rw [List.length_map, hx]; kernel_rfl) ?_) | (refine wpList_load_mid rfl _ _ rfl _ 0 rfl _ _ ky.id Try.underlying29 rfl (by rw [List.length_map, hy]; kernel_rfl) ?_))
  refine call_then (hcmp.out _) ?_
  intro w2 hb2
  replace hb := below_next hb hb.size hb2
  clear hb2 kx ky
  go_wp2
  go_ret
  exact ⟨rfl, hb⟩
theorem news_seen {w : World} {q : Nat} {cs : List Value} {t : TypeId} (hl : cs.length = 18) (h : w.heap[q]? = some (.cells cs.toArray t (0, 0))) : News w (some ⟨q, 0, none⟩) 1 1 18 cs :=
  ⟨hl, (fun h => (by cases h)), fun ad ha j u hj => by
    cases ha
    rw [Addr.add_mid]
    simp [World.cell?, h, hj]⟩
theorem owns_emptyS (w : World) {B : Nat} (hB : B ≤ w.heap.size) : (w.alloc (.cells #[] 32)).ownsRow B 32 18 (.slice (some ⟨w.heap.size, 0, none⟩) 0 0) 0 [] :=
  World.ownsRow_lit w #[] 0 hB (by unfold maxLen; omega) rfl
theorem held_allocS (w : World) (B : Nat) (o : Obj) : Held B w (w.alloc o) := Held.of_below ((Below.refl _ _).alloc (Nat.le_refl _) _)
/-- The rest of the law's own insertion behind its loop, whatever the world. -/
def InsOK (base : Nat) (l : List Sn) (k : Nat) (s : Sn) (w : World) (e : Ending) (w' : World) : Prop :=
  ∃ v', e = .returned v' ∧ Below w.heap.size w w' ∧ w'.ownsRow w.heap.size 32 18 v' (l.length + 1) (rowS (l.take k ++ s :: l.drop k))
set_option maxRecDepth 20000 in
set_option maxHeartbeats 16000000 in
theorem uinsert_any (base : Nat) (l : List Sn) (hok : AllOK l) (n : Nat) (hln : l.length = n) (hn : n ≤ 100) (xs : List Int) (t c : Int) (hs : SnOK ⟨xs, t, c⟩) (k : Nat) (hk : Place l xs k) (a : Option Addr) (cap : Nat) (w : World) (hown : w.ownsRow base 32 18 (.slice a n cap) n (rowS l)) :
    Calls Try.prog 15 #[.slice a n cap, seenv xs t c, .func (.func 25) #[] #[]] w (InsOK base l k ⟨xs, t, c⟩ w) := by
  obtain ⟨i0, z0, hinf, hz0, hz1, hz2, hz3⟩ := info_parts' info_seen
  have hkn : k ≤ n := by rw [← hln]; exact hk.le
  have hle : ∀ j, j < n → ∀ w, Calls Try.prog 25 #[seenv (nth l j).id (nth l j).t (nth l j).c, seenv xs t c] w fun e w' => e = .returned (.bool (idLess (nth l j).id xs)) ∧ Below w.heap.size w w' := fun j hj w =>
    less1_any (nth l j).id xs (nth l j).t (nth l j).c t c (hok _ (nth_mem (by omega))).len hs.len w
  have hcell : ∀ j, j < n → ∃ g, a = some ⟨g, 0, none⟩ ∧ w.rangeAt g (j * 18) (nth l j).cells := fun j hj => by
    rcases hown.2 with ⟨_, h0⟩ | ⟨g, cap2, cur, e, _⟩
    · omega
    · cases e
      exact ⟨g, rfl, row_at hok (by rw [← hln] at hown; exact hown) (by omega)⟩
  have h18 : ∀ j, j < n → ((Try.prog).info? 32).map (·.size) = some (nth l j).cells.length := fun j hj => by
    rw [Sn.cells_len (hok _ (nth_mem (by omega)))]
    kernel_rfl
  have hcl := Lib.hid (Sn.cells_len hs)
  have hc1 : Hid (∀ u ∈ (Sn.cells ⟨xs, t, c⟩), u.oneCell' = true) := Lib.hid (fun u hu => one_scells u hu)
  have hone := Lib.hid (@rowS_one l)
  have hfin : Hid (∀ (v : Value) (w' : World), w'.ownsRow w.heap.size 32 18 v (k + 1 + (n - k)) ((rowS l).take (k * 18) ++ (Sn.cells ⟨xs, t, c⟩) ++ (rowS l).drop (k * 18)) → w'.ownsRow w.heap.size 32 18 v (l.length + 1) (rowS (l.take k ++ ⟨xs, t, c⟩ :: l.drop k))) := Lib.hid (fun v w' h => by
    rw [rowS_ins hok] at h
    rw [hln, show n + 1 = k + 1 + (n - k) by omega]
    exact h)
  have hlo := hk.lo
  have hhi := hk.hi
  rw [hln] at hhi
  have hi18 : ((Try.prog).info? 32).map (·.size) = some (Sn.cells ⟨xs, t, c⟩).length := by rw [hcl.out]; kernel_rfl
  unfold InsOK
  unfold seenv at *
  rw [show scells xs t c = Sn.cells ⟨xs, t, c⟩ from rfl] at *
  generalize Sn.cells ⟨xs, t, c⟩ = cs at *
  replace hinf := Lib.hid hinf
  replace hz0 := Lib.hid hz0
  replace hz1 := Lib.hid hz1
  replace hz2 := Lib.hid hz2
  replace hz3 := Lib.hid hz3
  replace hle := Lib.hid hle
  replace hcell := Lib.hid hcell
  replace h18 := Lib.hid h18
  replace hlo := Lib.hid hlo
  replace hhi := Lib.hid hhi
  replace hown := Lib.hid hown
  clear hk hs hok
  go_enter Try.func15, Try.ntmps15
  go_upto_region 1 with (fail)
  refine name_wp (fun w1 => Below w.heap.size w w1 ∧ At0 w1 w.heap.size cs) ⟨(Below.refl _ _).alloc (Nat.le_refl _) _, At0.of_block (alloc_at rfl)⟩ ?_
  rintro w1 ⟨hb, kx⟩
  go_wp2
  go_loopw [7] (fun i wr => ∃ j : Nat, j ≤ k ∧ i = .int .i64 (j : Int) ∧ Below w.heap.size w wr ∧ At0 wr w.heap.size cs) (fun i _ => k - (intOf i).toNat)
  case atStart => exact ⟨0, Nat.zero_le _, rfl, hb, kx⟩
  case round =>
    clear hb kx
    obtain ⟨j, hj, rfl, hb, kx⟩ := hrel
    have hown2 := Lib.hid (owns_up hown.out hb)
    by_cases hjn : j < n
    · have e1 : (j : Int) < (n : Int) := by omega
      have e2 : (0 : Int) ≤ (j : Int) := by omega
      obtain ⟨g, rfl, hrg⟩ := hcell.out j hjn
      replace hrg := range_up hrg hb
      have hq := hle.out j hjn
      have hi2 := h18.out j hjn
      have hbl : Hid (idLess (nth l j).id xs = decide (j < k)) := Lib.hid (by
        by_cases h : j < k
        · rw [decide_eq_true h]; exact hlo.out j h
        · rw [decide_eq_false h]; exact hhi.out j (by omega) hjn)
      rw [hbl.out] at hq
      unfold Sn.cells at hrg hi2
      by_cases hjk : j < k
      · rw [decide_eq_true hjk] at hq
        replace hq := Lib.hid hq
        go_wp2
        refine wp_region_flow0 (by kernel_rfl) (by kernel_rfl) ?_
        intro ι _ φ hφ
        repeat (first
          | (refine quiet_load_mid _ _ _ (j * 18) _ _ rfl rfl rfl (mid_family hφ hrg) Try.underlying32 rfl hi2 ?_; simp only [Act.put, List.setIfInBounds_toArray, List.set_cons_succ, List.set_cons_zero])
          | (refine quiet_load_mid _ _ _ 0 _ _ rfl rfl rfl (mid_family hφ kx) Try.underlying32 rfl hi18 ?_; simp only [Act.put, List.setIfInBounds_toArray, List.set_cons_succ, List.set_cons_zero])
          | go_big_quiet_step ((go_at_call 25; exact flow_call hφ (hq.out _))))
        refine wpQuiet_nil ?_
        intro w2 hw2
        replace hb := below_next hb hb.size hw2
        replace kx := kx.up hw2
        clear hw2 hrg hq
        go_wp2
        exact ⟨⟨j + 1, hjk, by go_num, hb, kx⟩, by simp [intOf]; omega⟩
      · obtain rfl : k = j := by omega
        rw [decide_eq_false hjk] at hq
        replace hq := Lib.hid hq
        go_wp2
        refine wp_region_flow0 (by kernel_rfl) (by kernel_rfl) ?_
        intro ι _ φ hφ
        repeat (first
          | (refine quiet_load_mid _ _ _ (k * 18) _ _ rfl rfl rfl (mid_family hφ hrg) Try.underlying32 rfl hi2 ?_; simp only [Act.put, List.setIfInBounds_toArray, List.set_cons_succ, List.set_cons_zero])
          | (refine quiet_load_mid _ _ _ 0 _ _ rfl rfl rfl (mid_family hφ kx) Try.underlying32 rfl hi18 ?_; simp only [Act.put, List.setIfInBounds_toArray, List.set_cons_succ, List.set_cons_zero])
          | go_big_quiet_step ((go_at_call 25; exact flow_call hφ (hq.out _))))
        refine wpQuiet_nil ?_
        intro w2 hw2
        replace hb := below_next hb hb.size hw2
        replace kx := kx.up hw2
        clear hw2 hrg hq
        generalize w2 = wr at *
        go_wp2
        have hownr := owns_up hown.out hb
        obtain ⟨A1, c1, hr1, hn1, _⟩ := cut_low und_seens size_seen hownr k hkn
        obtain ⟨A2, c2, hr2, hn2, _⟩ := cut_high und_seens size_seen hownr k hkn
        have hbx : w.heap.size < wr.heap.size := World.block_lt_of_cell? _ _ (kx 0 _ (List.getElem?_eq_getElem (by rw [hcl.out]; omega)))
        replace hn1 := Lib.hid hn1
        replace hn2 := Lib.hid hn2
        clear hownr hown2 hle hcell h18 hlo hhi
        refine segR_start (gb := wr.heap.size) 13 (by kernel_rfl) (by decide) ?_
        intro v0 hbI
        refine segR_batch 6 [1, 2, 3, 5, 8, 9, 10] (by kernel_rfl) rfl (by kernel_rfl) (by kernel_rfl) (by kernel_rfl) ?_
        apply Exists.intro
        refine ⟨fun ι _ φ hφ => ?_, fun v1 hv1 => ?_⟩
        · have kxv := range_up kx hbI
          repeat (refine pick_step rfl ?_; first
            | (refine quiet_load_mid _ _ _ 0 _ _ rfl rfl rfl (mid_familyR hφ kxv hbx) Try.underlying32 rfl hi18 ?_; simp only [Act.put, List.setIfInBounds_toArray, List.set_cons_succ, List.set_cons_zero])
            | go_big_quiet_step (fail))
          exact pick_end
        replace hbI := below_next hbI hbI.size hv1
        clear hv1 hr1 hr2
        refine segR_more [0, 6] (by kernel_rfl) (by decide) ?_
        intro j hj
        simp only [List.mem_cons, List.not_mem_nil, or_false] at hj
        rcases hj with rfl | rfl
        · refine ⟨by decide, _, rfl, fun w2 K hw2 hK => ?_⟩
          replace hbI := below_next hbI hbI.size hw2
          clear hw2
          replace hK := Lib.hid hK
          go_simp
          refine hK.out _ _ (held_allocS _ _ _) ?_
          clear hK K
          have hown := owns_emptyS w2 (B := wr.heap.size) hbI.size
          have hp0 := lt_of_get (alloc_at (w := w2) (o := .cells #[] 32) rfl)
          replace hbI := hbI.alloc hbI.size (.cells #[] 32)
          generalize (w2.alloc (.cells #[] 32)) = w0 at *
          generalize w2.heap.size = p0 at *
          refine segR_more [4, 6] (by kernel_rfl) (by decide) ?_
          intro j hj
          simp only [List.mem_cons, List.not_mem_nil, or_false] at hj
          rcases hj with rfl | rfl
          · refine ⟨by decide, _, rfl, fun w2 K hw2 hK => ?_⟩
            replace hbI := below_next hbI hbI.size hw2
            replace hown := owns_up hown hw2
            clear hw2
            refine step_append_came rfl _ _ 27 rfl wr.heap.size 32 i0 z0 18 32 Try.underlying27 hinf.out hz0.out hz1.out hz2.out hz3.out (by decide) _ _ _ rfl hown A1 k c1 _ rfl (hn1.out.up hbI) (fun u hu => hone.out u (List.mem_of_mem_take hu)) (by unfold maxLen; omega) (by omega) hbI.size ?_
            intro v4 w4 hown4 hg4
            have hh4 := held_grown (B := wr.heap.size) hg4 (fun k hk => (hown.lt k hk).1)
            refine hK _ _ hh4 ?_
            clear hK K
            simp only [Act.put, List.setIfInBounds_toArray, List.set_cons_succ, List.set_cons_zero]
            replace hbI := held_below hbI hh4 (Nat.le_refl _) hbI.size
            rw [Nat.zero_add, List.nil_append] at hown4
            clear hh4 hg4 hown hp0
            replace hown := hown4
            clear hown4
            refine segR_one 6 _ (by decide) rfl (by kernel_rfl) ?_
            intro w5 K hw5 hK
            replace hbI := below_next hbI hbI.size hw5
            replace hown := owns_up hown hw5
            clear hw5
            replace hK := Lib.hid hK
            have hl := hcl.out
            go_simp
            rw [build_one _ _ (by rw [hl]; rfl)]
            clear hl
            refine hK.out _ _ (held_allocS _ _ _) ?_
            clear hK K
            have kh := alloc_at (w := w5) (o := .cells cs.toArray 32) rfl
            replace hbI := hbI.alloc hbI.size (.cells cs.toArray 32)
            replace hown := hown.alloc (.cells cs.toArray 32)
            refine segR_one 7 _ (by decide) rfl (by kernel_rfl) ?_
            intro w7 K hw7 hK
            replace kh := keeps hw7 kh
            replace hown := owns_up hown hw7
            replace hbI := below_next hbI hbI.size hw7
            clear hw7
            refine step_append_came rfl _ _ 27 rfl wr.heap.size 32 i0 z0 18 32 Try.underlying27 hinf.out hz0.out hz1.out hz2.out hz3.out (by decide) _ _ _ rfl hown (some ⟨_, 0, none⟩) 1 1 cs rfl (news_seen hcl.out kh) hc1.out (by unfold maxLen; omega) (by omega) hbI.size ?_
            intro v8 w8 hown8 hg8
            have hh8 := held_grown (B := wr.heap.size) hg8 (fun k hk => (hown.lt k hk).1)
            refine hK _ _ hh8 ?_
            clear hK K
            simp only [Act.put, List.setIfInBounds_toArray, List.set_cons_succ, List.set_cons_zero]
            replace hbI := held_below hbI hh8 (Nat.le_refl _) hbI.size
            clear hh8 hg8 hown kh
            refine segR_one 11 _ (by decide) rfl (by kernel_rfl) ?_
            intro w9 K hw9 hK
            replace hown8 := owns_up hown8 hw9
            replace hbI := below_next hbI hbI.size hw9
            clear hw9
            refine step_append_came rfl _ _ 27 rfl wr.heap.size 32 i0 z0 18 32 Try.underlying27 hinf.out hz0.out hz1.out hz2.out hz3.out (by decide) _ _ _ rfl hown8 A2 (n - k) c2 _ rfl (hn2.out.up hbI) (fun u hu => hone.out u (List.mem_of_mem_drop hu)) (by unfold maxLen; omega) (by omega) hbI.size ?_
            intro v10 w10 hown10 hg10
            have hh10 := held_grown (B := wr.heap.size) hg10 (fun k hk => (hown8.lt k hk).1)
            refine hK _ _ hh10 ?_
            clear hK K
            simp only [Act.put, List.setIfInBounds_toArray, List.set_cons_succ, List.set_cons_zero]
            replace hbI := held_below hbI hh10 (Nat.le_refl _) hbI.size
            clear hh10 hg10 hown8
            refine segR_batch 0 [12] (by kernel_rfl) rfl (by kernel_rfl) (by kernel_rfl) (by kernel_rfl) ?_
            apply Exists.intro
            refine ⟨fun ι _ φ hφ => ?_, fun w11 hv11 => ?_⟩
            · repeat (refine pick_step rfl ?_; go_big_quiet_step (fail))
              exact pick_end
            replace hown10 := owns_up hown10 hv11
            replace hbI := below_next hbI hbI.size hv11
            clear hv11
            refine segR_done rfl (by kernel_rfl) ?_
            intro w12 hv12
            replace hown10 := owns_up hown10 hv12
            replace hbI := below_next hbI hbI.size hv12
            clear hv12
            go_wp2
            go_ret
            exact ⟨_, rfl, below_next hb hb.size hbI, hfin.out _ _ (owns_mono hown10 hb.size)⟩
          · refine ⟨by decide, _, rfl, fun w2 K hw2 hK => ?_⟩
            replace hbI := below_next hbI hbI.size hw2
            replace hown := owns_up hown hw2
            replace hp0 := Nat.lt_of_lt_of_le hp0 hw2.size
            clear hw2
            replace hK := Lib.hid hK
            have hl := hcl.out
            go_simp
            rw [build_one _ _ (by rw [hl]; rfl)]
            clear hl
            refine hK.out _ _ (held_allocS _ _ _) ?_
            clear hK K
            have kh := alloc_at (w := w2) (o := .cells cs.toArray 32) rfl
            replace hbI := hbI.alloc hbI.size (.cells cs.toArray 32)
            replace hown := hown.alloc (.cells cs.toArray 32)
            have hne : w2.heap.size ≠ p0 := by omega
            refine segR_one 4 _ (by decide) rfl (by kernel_rfl) ?_
            intro w5 K hw5 hK
            replace hbI := below_next hbI hbI.size hw5
            replace hown := owns_up hown hw5
            replace kh := keeps hw5 kh
            clear hw5
            refine step_append_came rfl _ _ 27 rfl wr.heap.size 32 i0 z0 18 32 Try.underlying27 hinf.out hz0.out hz1.out hz2.out hz3.out (by decide) _ _ _ rfl hown A1 k c1 _ rfl (hn1.out.up hbI) (fun u hu => hone.out u (List.mem_of_mem_take hu)) (by unfold maxLen; omega) (by omega) hbI.size ?_
            intro v4 w4 hown4 hg4
            have hh4 := held_grown (B := wr.heap.size) hg4 (fun k hk => (hown.lt k hk).1)
            refine hK _ _ hh4 ?_
            clear hK K
            simp only [Act.put, List.setIfInBounds_toArray, List.set_cons_succ, List.set_cons_zero]
            replace hbI := held_below hbI hh4 (Nat.le_refl _) hbI.size
            rw [Nat.zero_add, List.nil_append] at hown4
            replace kh := (hg4.block _ (lt_of_get kh) (fun e => hne (Option.some.inj e))).trans kh
            clear hh4 hg4 hown hp0 hne
            replace hown := hown4
            clear hown4
            refine segR_one 7 _ (by decide) rfl (by kernel_rfl) ?_
            intro w7 K hw7 hK
            replace kh := keeps hw7 kh
            replace hown := owns_up hown hw7
            replace hbI := below_next hbI hbI.size hw7
            clear hw7
            refine step_append_came rfl _ _ 27 rfl wr.heap.size 32 i0 z0 18 32 Try.underlying27 hinf.out hz0.out hz1.out hz2.out hz3.out (by decide) _ _ _ rfl hown (some ⟨_, 0, none⟩) 1 1 cs rfl (news_seen hcl.out kh) hc1.out (by unfold maxLen; omega) (by omega) hbI.size ?_
            intro v8 w8 hown8 hg8
            have hh8 := held_grown (B := wr.heap.size) hg8 (fun k hk => (hown.lt k hk).1)
            refine hK _ _ hh8 ?_
            clear hK K
            simp only [Act.put, List.setIfInBounds_toArray, List.set_cons_succ, List.set_cons_zero]
            replace hbI := held_below hbI hh8 (Nat.le_refl _) hbI.size
            clear hh8 hg8 hown kh
            refine segR_one 11 _ (by decide) rfl (by kernel_rfl) ?_
            intro w9 K hw9 hK
            replace hown8 := owns_up hown8 hw9
            replace hbI := below_next hbI hbI.size hw9
            clear hw9
            refine step_append_came rfl _ _ 27 rfl wr.heap.size 32 i0 z0 18 32 Try.underlying27 hinf.out hz0.out hz1.out hz2.out hz3.out (by decide) _ _ _ rfl hown8 A2 (n - k) c2 _ rfl (hn2.out.up hbI) (fun u hu => hone.out u (List.mem_of_mem_drop hu)) (by unfold maxLen; omega) (by omega) hbI.size ?_
            intro v10 w10 hown10 hg10
            have hh10 := held_grown (B := wr.heap.size) hg10 (fun k hk => (hown8.lt k hk).1)
            refine hK _ _ hh10 ?_
            clear hK K
            simp only [Act.put, List.setIfInBounds_toArray, List.set_cons_succ, List.set_cons_zero]
            replace hbI := held_below hbI hh10 (Nat.le_refl _) hbI.size
            clear hh10 hg10 hown8
            refine segR_batch 0 [12] (by kernel_rfl) rfl (by kernel_rfl) (by kernel_rfl) (by kernel_rfl) ?_
            apply Exists.intro
            refine ⟨fun ι _ φ hφ => ?_, fun w11 hv11 => ?_⟩
            · repeat (refine pick_step rfl ?_; go_big_quiet_step (fail))
              exact pick_end
            replace hown10 := owns_up hown10 hv11
            replace hbI := below_next hbI hbI.size hv11
            clear hv11
            refine segR_done rfl (by kernel_rfl) ?_
            intro w12 hv12
            replace hown10 := owns_up hown10 hv12
            replace hbI := below_next hbI hbI.size hv12
            clear hv12
            go_wp2
            go_ret
            exact ⟨_, rfl, below_next hb hb.size hbI, hfin.out _ _ (owns_mono hown10 hb.size)⟩
        · refine ⟨by decide, _, rfl, fun w2 K hw2 hK => ?_⟩
          replace hbI := below_next hbI hbI.size hw2
          clear hw2
          replace hK := Lib.hid hK
          have hl := hcl.out
          go_simp
          rw [build_one _ _ (by rw [hl]; rfl)]
          clear hl
          refine hK.out _ _ (held_allocS _ _ _) ?_
          clear hK K
          have kh := alloc_at (w := w2) (o := .cells cs.toArray 32) rfl
          replace hbI := hbI.alloc hbI.size (.cells cs.toArray 32)
          have hq0 := lt_of_get kh
          generalize w2.heap.size = q at *
          generalize (w2.alloc (.cells cs.toArray 32)) = w6 at *
          refine segR_one 0 _ (by decide) rfl (by kernel_rfl) ?_
          intro w2 K hw2 hK
          replace hbI := below_next hbI hbI.size hw2
          replace kh := keeps hw2 kh
          replace hq0 := Nat.lt_of_lt_of_le hq0 hw2.size
          clear hw2
          have hne : q ≠ w2.heap.size := by omega
          replace kh := alloc_keeps (o := .cells #[] 32) kh
          replace hK := Lib.hid hK
          go_simp
          refine hK.out _ _ (held_allocS _ _ _) ?_
          clear hK K
          have hown := owns_emptyS w2 (B := wr.heap.size) hbI.size
          have hp0 := lt_of_get (alloc_at (w := w2) (o := .cells #[] 32) rfl)
          replace hbI := hbI.alloc hbI.size (.cells #[] 32)
          generalize (w2.alloc (.cells #[] 32)) = w0 at *
          generalize w2.heap.size = p0 at *
          refine segR_one 4 _ (by decide) rfl (by kernel_rfl) ?_
          intro w5 K hw5 hK
          replace hbI := below_next hbI hbI.size hw5
          replace hown := owns_up hown hw5
          replace kh := keeps hw5 kh
          clear hw5
          refine step_append_came rfl _ _ 27 rfl wr.heap.size 32 i0 z0 18 32 Try.underlying27 hinf.out hz0.out hz1.out hz2.out hz3.out (by decide) _ _ _ rfl hown A1 k c1 _ rfl (hn1.out.up hbI) (fun u hu => hone.out u (List.mem_of_mem_take hu)) (by unfold maxLen; omega) (by omega) hbI.size ?_
          intro v4 w4 hown4 hg4
          have hh4 := held_grown (B := wr.heap.size) hg4 (fun k hk => (hown.lt k hk).1)
          refine hK _ _ hh4 ?_
          clear hK K
          simp only [Act.put, List.setIfInBounds_toArray, List.set_cons_succ, List.set_cons_zero]
          replace hbI := held_below hbI hh4 (Nat.le_refl _) hbI.size
          rw [Nat.zero_add, List.nil_append] at hown4
          replace kh := (hg4.block _ (lt_of_get kh) (fun e => hne (Option.some.inj e))).trans kh
          clear hh4 hg4 hown hp0 hne
          replace hown := hown4
          clear hown4
          refine segR_one 7 _ (by decide) rfl (by kernel_rfl) ?_
          intro w7 K hw7 hK
          replace kh := keeps hw7 kh
          replace hown := owns_up hown hw7
          replace hbI := below_next hbI hbI.size hw7
          clear hw7
          refine step_append_came rfl _ _ 27 rfl wr.heap.size 32 i0 z0 18 32 Try.underlying27 hinf.out hz0.out hz1.out hz2.out hz3.out (by decide) _ _ _ rfl hown (some ⟨_, 0, none⟩) 1 1 cs rfl (news_seen hcl.out kh) hc1.out (by unfold maxLen; omega) (by omega) hbI.size ?_
          intro v8 w8 hown8 hg8
          have hh8 := held_grown (B := wr.heap.size) hg8 (fun k hk => (hown.lt k hk).1)
          refine hK _ _ hh8 ?_
          clear hK K
          simp only [Act.put, List.setIfInBounds_toArray, List.set_cons_succ, List.set_cons_zero]
          replace hbI := held_below hbI hh8 (Nat.le_refl _) hbI.size
          clear hh8 hg8 hown kh
          refine segR_one 11 _ (by decide) rfl (by kernel_rfl) ?_
          intro w9 K hw9 hK
          replace hown8 := owns_up hown8 hw9
          replace hbI := below_next hbI hbI.size hw9
          clear hw9
          refine step_append_came rfl _ _ 27 rfl wr.heap.size 32 i0 z0 18 32 Try.underlying27 hinf.out hz0.out hz1.out hz2.out hz3.out (by decide) _ _ _ rfl hown8 A2 (n - k) c2 _ rfl (hn2.out.up hbI) (fun u hu => hone.out u (List.mem_of_mem_drop hu)) (by unfold maxLen; omega) (by omega) hbI.size ?_
          intro v10 w10 hown10 hg10
          have hh10 := held_grown (B := wr.heap.size) hg10 (fun k hk => (hown8.lt k hk).1)
          refine hK _ _ hh10 ?_
          clear hK K
          simp only [Act.put, List.setIfInBounds_toArray, List.set_cons_succ, List.set_cons_zero]
          replace hbI := held_below hbI hh10 (Nat.le_refl _) hbI.size
          clear hh10 hg10 hown8
          refine segR_batch 0 [12] (by kernel_rfl) rfl (by kernel_rfl) (by kernel_rfl) (by kernel_rfl) ?_
          apply Exists.intro
          refine ⟨fun ι _ φ hφ => ?_, fun w11 hv11 => ?_⟩
          · repeat (refine pick_step rfl ?_; go_big_quiet_step (fail))
            exact pick_end
          replace hown10 := owns_up hown10 hv11
          replace hbI := below_next hbI hbI.size hv11
          clear hv11
          refine segR_done rfl (by kernel_rfl) ?_
          intro w12 hv12
          replace hown10 := owns_up hown10 hv12
          replace hbI := below_next hbI hbI.size hv12
          clear hv12
          go_wp2
          go_ret
          exact ⟨_, rfl, below_next hb hb.size hbI, hfin.out _ _ (owns_mono hown10 hb.size)⟩
    · obtain rfl : k = j := by omega
      have e1 : ¬ (k : Int) < (n : Int) := by omega
      go_wp2
      refine wp_region_flow0 (by kernel_rfl) (by kernel_rfl) ?_
      intro ι _ φ hφ
      repeat (go_big_quiet_step (fail))
      refine wpQuiet_nil ?_
      intro w2 hw2
      replace hb := below_next hb hb.size hw2
      replace kx := kx.up hw2
      clear hw2
      generalize w2 = wr at *
      go_wp2
      have hownr := owns_up hown.out hb
      obtain ⟨A1, c1, hr1, hn1, _⟩ := cut_low und_seens size_seen hownr k hkn
      obtain ⟨A2, c2, hr2, hn2, _⟩ := cut_high und_seens size_seen hownr k hkn
      have hbx : w.heap.size < wr.heap.size := World.block_lt_of_cell? _ _ (kx 0 _ (List.getElem?_eq_getElem (by rw [hcl.out]; omega)))
      replace hn1 := Lib.hid hn1
      replace hn2 := Lib.hid hn2
      clear hownr hown2 hle hcell h18 hlo hhi
      refine segR_start (gb := wr.heap.size) 13 (by kernel_rfl) (by decide) ?_
      intro v0 hbI
      refine segR_batch 6 [1, 2, 3, 5, 8, 9, 10] (by kernel_rfl) rfl (by kernel_rfl) (by kernel_rfl) (by kernel_rfl) ?_
      apply Exists.intro
      refine ⟨fun ι _ φ hφ => ?_, fun v1 hv1 => ?_⟩
      · have kxv := range_up kx hbI
        repeat (refine pick_step rfl ?_; first
          | (refine quiet_load_mid _ _ _ 0 _ _ rfl rfl rfl (mid_familyR hφ kxv hbx) Try.underlying32 rfl hi18 ?_; simp only [Act.put, List.setIfInBounds_toArray, List.set_cons_succ, List.set_cons_zero])
          | go_big_quiet_step (fail))
        exact pick_end
      replace hbI := below_next hbI hbI.size hv1
      clear hv1 hr1 hr2
      refine segR_more [0, 6] (by kernel_rfl) (by decide) ?_
      intro j hj
      simp only [List.mem_cons, List.not_mem_nil, or_false] at hj
      rcases hj with rfl | rfl
      · refine ⟨by decide, _, rfl, fun w2 K hw2 hK => ?_⟩
        replace hbI := below_next hbI hbI.size hw2
        clear hw2
        replace hK := Lib.hid hK
        go_simp
        refine hK.out _ _ (held_allocS _ _ _) ?_
        clear hK K
        have hown := owns_emptyS w2 (B := wr.heap.size) hbI.size
        have hp0 := lt_of_get (alloc_at (w := w2) (o := .cells #[] 32) rfl)
        replace hbI := hbI.alloc hbI.size (.cells #[] 32)
        generalize (w2.alloc (.cells #[] 32)) = w0 at *
        generalize w2.heap.size = p0 at *
        refine segR_more [4, 6] (by kernel_rfl) (by decide) ?_
        intro j hj
        simp only [List.mem_cons, List.not_mem_nil, or_false] at hj
        rcases hj with rfl | rfl
        · refine ⟨by decide, _, rfl, fun w2 K hw2 hK => ?_⟩
          replace hbI := below_next hbI hbI.size hw2
          replace hown := owns_up hown hw2
          clear hw2
          refine step_append_came rfl _ _ 27 rfl wr.heap.size 32 i0 z0 18 32 Try.underlying27 hinf.out hz0.out hz1.out hz2.out hz3.out (by decide) _ _ _ rfl hown A1 k c1 _ rfl (hn1.out.up hbI) (fun u hu => hone.out u (List.mem_of_mem_take hu)) (by unfold maxLen; omega) (by omega) hbI.size ?_
          intro v4 w4 hown4 hg4
          have hh4 := held_grown (B := wr.heap.size) hg4 (fun k hk => (hown.lt k hk).1)
          refine hK _ _ hh4 ?_
          clear hK K
          simp only [Act.put, List.setIfInBounds_toArray, List.set_cons_succ, List.set_cons_zero]
          replace hbI := held_below hbI hh4 (Nat.le_refl _) hbI.size
          rw [Nat.zero_add, List.nil_append] at hown4
          clear hh4 hg4 hown hp0
          replace hown := hown4
          clear hown4
          refine segR_one 6 _ (by decide) rfl (by kernel_rfl) ?_
          intro w5 K hw5 hK
          replace hbI := below_next hbI hbI.size hw5
          replace hown := owns_up hown hw5
          clear hw5
          replace hK := Lib.hid hK
          have hl := hcl.out
          go_simp
          rw [build_one _ _ (by rw [hl]; rfl)]
          clear hl
          refine hK.out _ _ (held_allocS _ _ _) ?_
          clear hK K
          have kh := alloc_at (w := w5) (o := .cells cs.toArray 32) rfl
          replace hbI := hbI.alloc hbI.size (.cells cs.toArray 32)
          replace hown := hown.alloc (.cells cs.toArray 32)
          refine segR_one 7 _ (by decide) rfl (by kernel_rfl) ?_
          intro w7 K hw7 hK
          replace kh := keeps hw7 kh
          replace hown := owns_up hown hw7
          replace hbI := below_next hbI hbI.size hw7
          clear hw7
          refine step_append_came rfl _ _ 27 rfl wr.heap.size 32 i0 z0 18 32 Try.underlying27 hinf.out hz0.out hz1.out hz2.out hz3.out (by decide) _ _ _ rfl hown (some ⟨_, 0, none⟩) 1 1 cs rfl (news_seen hcl.out kh) hc1.out (by unfold maxLen; omega) (by omega) hbI.size ?_
          intro v8 w8 hown8 hg8
          have hh8 := held_grown (B := wr.heap.size) hg8 (fun k hk => (hown.lt k hk).1)
          refine hK _ _ hh8 ?_
          clear hK K
          simp only [Act.put, List.setIfInBounds_toArray, List.set_cons_succ, List.set_cons_zero]
          replace hbI := held_below hbI hh8 (Nat.le_refl _) hbI.size
          clear hh8 hg8 hown kh
          refine segR_one 11 _ (by decide) rfl (by kernel_rfl) ?_
          intro w9 K hw9 hK
          replace hown8 := owns_up hown8 hw9
          replace hbI := below_next hbI hbI.size hw9
          clear hw9
          refine step_append_came rfl _ _ 27 rfl wr.heap.size 32 i0 z0 18 32 Try.underlying27 hinf.out hz0.out hz1.out hz2.out hz3.out (by decide) _ _ _ rfl hown8 A2 (n - k) c2 _ rfl (hn2.out.up hbI) (fun u hu => hone.out u (List.mem_of_mem_drop hu)) (by unfold maxLen; omega) (by omega) hbI.size ?_
          intro v10 w10 hown10 hg10
          have hh10 := held_grown (B := wr.heap.size) hg10 (fun k hk => (hown8.lt k hk).1)
          refine hK _ _ hh10 ?_
          clear hK K
          simp only [Act.put, List.setIfInBounds_toArray, List.set_cons_succ, List.set_cons_zero]
          replace hbI := held_below hbI hh10 (Nat.le_refl _) hbI.size
          clear hh10 hg10 hown8
          refine segR_batch 0 [12] (by kernel_rfl) rfl (by kernel_rfl) (by kernel_rfl) (by kernel_rfl) ?_
          apply Exists.intro
          refine ⟨fun ι _ φ hφ => ?_, fun w11 hv11 => ?_⟩
          · repeat (refine pick_step rfl ?_; go_big_quiet_step (fail))
            exact pick_end
          replace hown10 := owns_up hown10 hv11
          replace hbI := below_next hbI hbI.size hv11
          clear hv11
          refine segR_done rfl (by kernel_rfl) ?_
          intro w12 hv12
          replace hown10 := owns_up hown10 hv12
          replace hbI := below_next hbI hbI.size hv12
          clear hv12
          go_wp2
          go_ret
          exact ⟨_, rfl, below_next hb hb.size hbI, hfin.out _ _ (owns_mono hown10 hb.size)⟩
        · refine ⟨by decide, _, rfl, fun w2 K hw2 hK => ?_⟩
          replace hbI := below_next hbI hbI.size hw2
          replace hown := owns_up hown hw2
          replace hp0 := Nat.lt_of_lt_of_le hp0 hw2.size
          clear hw2
          replace hK := Lib.hid hK
          have hl := hcl.out
          go_simp
          rw [build_one _ _ (by rw [hl]; rfl)]
          clear hl
          refine hK.out _ _ (held_allocS _ _ _) ?_
          clear hK K
          have kh := alloc_at (w := w2) (o := .cells cs.toArray 32) rfl
          replace hbI := hbI.alloc hbI.size (.cells cs.toArray 32)
          replace hown := hown.alloc (.cells cs.toArray 32)
          have hne : w2.heap.size ≠ p0 := by omega
          refine segR_one 4 _ (by decide) rfl (by kernel_rfl) ?_
          intro w5 K hw5 hK
          replace hbI := below_next hbI hbI.size hw5
          replace hown := owns_up hown hw5
          replace kh := keeps hw5 kh
          clear hw5
          refine step_append_came rfl _ _ 27 rfl wr.heap.size 32 i0 z0 18 32 Try.underlying27 hinf.out hz0.out hz1.out hz2.out hz3.out (by decide) _ _ _ rfl hown A1 k c1 _ rfl (hn1.out.up hbI) (fun u hu => hone.out u (List.mem_of_mem_take hu)) (by unfold maxLen; omega) (by omega) hbI.size ?_
          intro v4 w4 hown4 hg4
          have hh4 := held_grown (B := wr.heap.size) hg4 (fun k hk => (hown.lt k hk).1)
          refine hK _ _ hh4 ?_
          clear hK K
          simp only [Act.put, List.setIfInBounds_toArray, List.set_cons_succ, List.set_cons_zero]
          replace hbI := held_below hbI hh4 (Nat.le_refl _) hbI.size
          rw [Nat.zero_add, List.nil_append] at hown4
          replace kh := (hg4.block _ (lt_of_get kh) (fun e => hne (Option.some.inj e))).trans kh
          clear hh4 hg4 hown hp0 hne
          replace hown := hown4
          clear hown4
          refine segR_one 7 _ (by decide) rfl (by kernel_rfl) ?_
          intro w7 K hw7 hK
          replace kh := keeps hw7 kh
          replace hown := owns_up hown hw7
          replace hbI := below_next hbI hbI.size hw7
          clear hw7
          refine step_append_came rfl _ _ 27 rfl wr.heap.size 32 i0 z0 18 32 Try.underlying27 hinf.out hz0.out hz1.out hz2.out hz3.out (by decide) _ _ _ rfl hown (some ⟨_, 0, none⟩) 1 1 cs rfl (news_seen hcl.out kh) hc1.out (by unfold maxLen; omega) (by omega) hbI.size ?_
          intro v8 w8 hown8 hg8
          have hh8 := held_grown (B := wr.heap.size) hg8 (fun k hk => (hown.lt k hk).1)
          refine hK _ _ hh8 ?_
          clear hK K
          simp only [Act.put, List.setIfInBounds_toArray, List.set_cons_succ, List.set_cons_zero]
          replace hbI := held_below hbI hh8 (Nat.le_refl _) hbI.size
          clear hh8 hg8 hown kh
          refine segR_one 11 _ (by decide) rfl (by kernel_rfl) ?_
          intro w9 K hw9 hK
          replace hown8 := owns_up hown8 hw9
          replace hbI := below_next hbI hbI.size hw9
          clear hw9
          refine step_append_came rfl _ _ 27 rfl wr.heap.size 32 i0 z0 18 32 Try.underlying27 hinf.out hz0.out hz1.out hz2.out hz3.out (by decide) _ _ _ rfl hown8 A2 (n - k) c2 _ rfl (hn2.out.up hbI) (fun u hu => hone.out u (List.mem_of_mem_drop hu)) (by unfold maxLen; omega) (by omega) hbI.size ?_
          intro v10 w10 hown10 hg10
          have hh10 := held_grown (B := wr.heap.size) hg10 (fun k hk => (hown8.lt k hk).1)
          refine hK _ _ hh10 ?_
          clear hK K
          simp only [Act.put, List.setIfInBounds_toArray, List.set_cons_succ, List.set_cons_zero]
          replace hbI := held_below hbI hh10 (Nat.le_refl _) hbI.size
          clear hh10 hg10 hown8
          refine segR_batch 0 [12] (by kernel_rfl) rfl (by kernel_rfl) (by kernel_rfl) (by kernel_rfl) ?_
          apply Exists.intro
          refine ⟨fun ι _ φ hφ => ?_, fun w11 hv11 => ?_⟩
          · repeat (refine pick_step rfl ?_; go_big_quiet_step (fail))
            exact pick_end
          replace hown10 := owns_up hown10 hv11
          replace hbI := below_next hbI hbI.size hv11
          clear hv11
          refine segR_done rfl (by kernel_rfl) ?_
          intro w12 hv12
          replace hown10 := owns_up hown10 hv12
          replace hbI := below_next hbI hbI.size hv12
          clear hv12
          go_wp2
          go_ret
          exact ⟨_, rfl, below_next hb hb.size hbI, hfin.out _ _ (owns_mono hown10 hb.size)⟩
      · refine ⟨by decide, _, rfl, fun w2 K hw2 hK => ?_⟩
        replace hbI := below_next hbI hbI.size hw2
        clear hw2
        replace hK := Lib.hid hK
        have hl := hcl.out
        go_simp
        rw [build_one _ _ (by rw [hl]; rfl)]
        clear hl
        refine hK.out _ _ (held_allocS _ _ _) ?_
        clear hK K
        have kh := alloc_at (w := w2) (o := .cells cs.toArray 32) rfl
        replace hbI := hbI.alloc hbI.size (.cells cs.toArray 32)
        have hq0 := lt_of_get kh
        generalize w2.heap.size = q at *
        generalize (w2.alloc (.cells cs.toArray 32)) = w6 at *
        refine segR_one 0 _ (by decide) rfl (by kernel_rfl) ?_
        intro w2 K hw2 hK
        replace hbI := below_next hbI hbI.size hw2
        replace kh := keeps hw2 kh
        replace hq0 := Nat.lt_of_lt_of_le hq0 hw2.size
        clear hw2
        have hne : q ≠ w2.heap.size := by omega
        replace kh := alloc_keeps (o := .cells #[] 32) kh
        replace hK := Lib.hid hK
        go_simp
        refine hK.out _ _ (held_allocS _ _ _) ?_
        clear hK K
        have hown := owns_emptyS w2 (B := wr.heap.size) hbI.size
        have hp0 := lt_of_get (alloc_at (w := w2) (o := .cells #[] 32) rfl)
        replace hbI := hbI.alloc hbI.size (.cells #[] 32)
        generalize (w2.alloc (.cells #[] 32)) = w0 at *
        generalize w2.heap.size = p0 at *
        refine segR_one 4 _ (by decide) rfl (by kernel_rfl) ?_
        intro w5 K hw5 hK
        replace hbI := below_next hbI hbI.size hw5
        replace hown := owns_up hown hw5
        replace kh := keeps hw5 kh
        clear hw5
        refine step_append_came rfl _ _ 27 rfl wr.heap.size 32 i0 z0 18 32 Try.underlying27 hinf.out hz0.out hz1.out hz2.out hz3.out (by decide) _ _ _ rfl hown A1 k c1 _ rfl (hn1.out.up hbI) (fun u hu => hone.out u (List.mem_of_mem_take hu)) (by unfold maxLen; omega) (by omega) hbI.size ?_
        intro v4 w4 hown4 hg4
        have hh4 := held_grown (B := wr.heap.size) hg4 (fun k hk => (hown.lt k hk).1)
        refine hK _ _ hh4 ?_
        clear hK K
        simp only [Act.put, List.setIfInBounds_toArray, List.set_cons_succ, List.set_cons_zero]
        replace hbI := held_below hbI hh4 (Nat.le_refl _) hbI.size
        rw [Nat.zero_add, List.nil_append] at hown4
        replace kh := (hg4.block _ (lt_of_get kh) (fun e => hne (Option.some.inj e))).trans kh
        clear hh4 hg4 hown hp0 hne
        replace hown := hown4
        clear hown4
        refine segR_one 7 _ (by decide) rfl (by kernel_rfl) ?_
        intro w7 K hw7 hK
        replace kh := keeps hw7 kh
        replace hown := owns_up hown hw7
        replace hbI := below_next hbI hbI.size hw7
        clear hw7
        refine step_append_came rfl _ _ 27 rfl wr.heap.size 32 i0 z0 18 32 Try.underlying27 hinf.out hz0.out hz1.out hz2.out hz3.out (by decide) _ _ _ rfl hown (some ⟨_, 0, none⟩) 1 1 cs rfl (news_seen hcl.out kh) hc1.out (by unfold maxLen; omega) (by omega) hbI.size ?_
        intro v8 w8 hown8 hg8
        have hh8 := held_grown (B := wr.heap.size) hg8 (fun k hk => (hown.lt k hk).1)
        refine hK _ _ hh8 ?_
        clear hK K
        simp only [Act.put, List.setIfInBounds_toArray, List.set_cons_succ, List.set_cons_zero]
        replace hbI := held_below hbI hh8 (Nat.le_refl _) hbI.size
        clear hh8 hg8 hown kh
        refine segR_one 11 _ (by decide) rfl (by kernel_rfl) ?_
        intro w9 K hw9 hK
        replace hown8 := owns_up hown8 hw9
        replace hbI := below_next hbI hbI.size hw9
        clear hw9
        refine step_append_came rfl _ _ 27 rfl wr.heap.size 32 i0 z0 18 32 Try.underlying27 hinf.out hz0.out hz1.out hz2.out hz3.out (by decide) _ _ _ rfl hown8 A2 (n - k) c2 _ rfl (hn2.out.up hbI) (fun u hu => hone.out u (List.mem_of_mem_drop hu)) (by unfold maxLen; omega) (by omega) hbI.size ?_
        intro v10 w10 hown10 hg10
        have hh10 := held_grown (B := wr.heap.size) hg10 (fun k hk => (hown8.lt k hk).1)
        refine hK _ _ hh10 ?_
        clear hK K
        simp only [Act.put, List.setIfInBounds_toArray, List.set_cons_succ, List.set_cons_zero]
        replace hbI := held_below hbI hh10 (Nat.le_refl _) hbI.size
        clear hh10 hg10 hown8
        refine segR_batch 0 [12] (by kernel_rfl) rfl (by kernel_rfl) (by kernel_rfl) (by kernel_rfl) ?_
        apply Exists.intro
        refine ⟨fun ι _ φ hφ => ?_, fun w11 hv11 => ?_⟩
        · repeat (refine pick_step rfl ?_; go_big_quiet_step (fail))
          exact pick_end
        replace hown10 := owns_up hown10 hv11
        replace hbI := below_next hbI hbI.size hv11
        clear hv11
        refine segR_done rfl (by kernel_rfl) ?_
        intro w12 hv12
        replace hown10 := owns_up hown10 hv12
        replace hbI := below_next hbI hbI.size hv12
        clear hv12
        go_wp2
        go_ret
        exact ⟨_, rfl, below_next hb hb.size hbI, hfin.out _ _ (owns_mono hown10 hb.size)⟩
end Go.Proofs.Ytkngcffgoimjkaa
