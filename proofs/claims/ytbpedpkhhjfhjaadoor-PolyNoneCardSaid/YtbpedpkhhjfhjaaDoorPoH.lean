/-
  The document's own sums of polynomials.
-/
import Derived.Test.YtbpedpkhhjfhjaaDoorPoG
import Derived.Deep.DeepCutAuto
import Derived.Deep.CutBlock
namespace Go.Proofs.YtbpedpkhhjfhjaaDoor
open Go.RowKit F Flow
set_option linter.unusedVariables false
set_option linter.unusedSimpArgs false
attribute [local go_sem] eql_elem

theorem add_zero_in {f x : Int} (h : 0 ≤ x ∧ x < M f) : add f 0 x = x ∧ add f x 0 = x := by
  have h0 : redu f 0 = 0 := redu_zero f
  unfold add
  rw [redu_of_lt h.1 h.2, h0, Int.zero_add, Int.add_zero]
  exact ⟨Int.emod_eq_of_lt h.1 h.2, Int.emod_eq_of_lt h.1 h.2⟩
set_option maxRecDepth 20000 in
set_option maxHeartbeats 4000000 in
theorem rsum_any (f : Int) (F G : Nat → Int) (n k : Nat) (hF : ∀ t, 0 ≤ F t ∧ F t < M f) (hG : ∀ t, 0 ≤ G t ∧ G t < M f) (hn : n ≤ 2000) (hk : k ≤ 2000) (A B : Option Addr) (c d : Nat) (w : World) (hA : ElemsAt w A (lst F n)) (hB : ElemsAt w B (lst G k)) :
    Calls Tryd.prog 19 #[.int .i64 f, .slice A n c, .slice B k d] w (ROut (av f F G n k) (tl (av f F G n k) (max n k)) w) := by
  obtain ⟨N, hN⟩ : ∃ N, N = max n k := ⟨_, rfl⟩
  rw [← hN]
  have htr := Lib.hid (fun A c hc w h => rtrim_any (av f F G n k) N A c (lim_f (f := f) (fun t => add_bound f _ _)) (by omega) hc w h)
  unfold ROut at *
  have hMl := M_lt f
  have hnN : n ≤ N := by omega
  have hkN : k ≤ N := by omega
  have hNor : Hid (∀ j : Nat, j < N → j < n ∨ j < k) := Lib.hid (fun j h => by omega)
  obtain ⟨S, hS⟩ : ∃ S : Nat → Int, S = av f F G n k := ⟨_, rfl⟩
  have h1 : Hid (∀ j, j < n → j < k → ∀ w, Calls Tryd.prog 45 #[.int .i64 f, .agg #[.int .u64 (lo (F j)), .int .u64 (hi (F j))], .agg #[.int .u64 (lo (G j)), .int .u64 (hi (G j))]] w fun e w' => e = .returned (.agg #[.int .u64 (lo (S j)), .int .u64 (hi (S j))]) ∧ Below w.heap.size w w') := Lib.hid (fun j h1 h2 w => by
    have hx := hF j
    have hy := hG j
    have h := add_any f (F j) (G j) (by omega) (by omega) (by omega) (by omega) w
    rw [hS]; unfold av; rw [ext_at F h1, ext_at G h2]; exact h)
  have h2 : Hid (∀ j, ∀ w, Calls Tryd.prog 45 #[.int .i64 f, .agg #[.int .u64 0, .int .u64 0], .agg #[.int .u64 (lo (F j)), .int .u64 (hi (F j))]] w fun e w' => e = .returned (.agg #[.int .u64 (lo (F j)), .int .u64 (hi (F j))]) ∧ Below w.heap.size w w') := Lib.hid (fun j w => by
    have hx := hF j
    have h := add_any f 0 (F j) (by omega) (by omega) (by omega) (by omega) w
    rw [(add_zero_in hx).1, show lo 0 = 0 from rfl, show hi 0 = 0 from rfl] at h; exact h)
  have h3 : Hid (∀ j, ∀ w, Calls Tryd.prog 45 #[.int .i64 f, .agg #[.int .u64 0, .int .u64 0], .agg #[.int .u64 (lo (G j)), .int .u64 (hi (G j))]] w fun e w' => e = .returned (.agg #[.int .u64 (lo (G j)), .int .u64 (hi (G j))]) ∧ Below w.heap.size w w') := Lib.hid (fun j w => by
    have hx := hG j
    have h := add_any f 0 (G j) (by omega) (by omega) (by omega) (by omega) w
    rw [(add_zero_in hx).1, show lo 0 = 0 from rfl, show hi 0 = 0 from rfl] at h; exact h)
  have e2 : Hid (∀ j, j < n → ¬ j < k → S j = F j) := Lib.hid (fun j h1 h2 => by rw [hS]; unfold av; rw [ext_at F h1, ext_far G (by omega)]; exact (add_zero_in (hF j)).2)
  have e3 : Hid (∀ j, ¬ j < n → j < k → S j = G j) := Lib.hid (fun j h1 h2 => by rw [hS]; unfold av; rw [ext_far F (by omega), ext_at G h2]; exact (add_zero_in (hG j)).1)
  rw [← hS] at htr ⊢
  clear hS hF hG
  generalize tl S N = T at *
  obtain ⟨i0, hinf, hz0, hz1, hz2⟩ := info_parts info_elemv
  replace hinf := Lib.hid hinf
  replace hN := Lib.hid hN
  go_enter Tryd.func19, Tryd.ntmps19
  go_wp2
  obtain ⟨B0, hB0⟩ : ∃ b, b = w.heap.size := ⟨_, rfl⟩
  have hBw : w.heap.size ≤ B0 := by omega
  have hown : w.ownsRow B0 25 2 (.slice none 0 0) 0 (ecells (lst S 0)) := World.ownsRow_nil _ _ _ _
  have hBs : B0 ≤ w.heap.size := by omega
  clear hB0
  go_loopw [7, 8] (fun x i wr => ∃ (j : Nat) (A' : Option Addr) (c' : Nat), j ≤ N ∧ i = .int .i64 (j : Int) ∧ x = .slice A' j c' ∧ Below w.heap.size w wr ∧ B0 ≤ wr.heap.size ∧ wr.ownsRow B0 25 2 (.slice A' j c') j (ecells (lst S j))) (fun _ i _ => N - (intOf i).toNat)
  case atStart => exact ⟨0, none, 0, Nat.zero_le _, rfl, rfl, Below.refl _ _, hBs, hown⟩
  case round =>
    clear hown hBs
    obtain ⟨j, A', c', hj, rfl, rfl, hb, hBs, hown⟩ := hrel
    have i9 : (0 : Int) ≤ (j : Int) := by omega
    have hpo : Hid (∀ k, (Value.slice A' j c').ownBlock = some k → k < wr.heap.size) := Lib.hid (fun k e => (hown.lt k e).2)
    have hsuc : Hid (lst S (j + 1) = lst S j ++ [S j]) := Lib.hid (lst_succ _ _)
    by_cases hjn : j < n
    · have i1 : (j : Int) < (n : Int) := by omega
      by_cases hjk : j < k
      · have i2 : (j : Int) < (k : Int) := by omega
        have g1 := Lib.hid (h1.out j hjn hjk)
        have g2 := Lib.hid (h2.out j)
        obtain ⟨b, o, rfl, -, -⟩ := hA j (by rw [lst_length]; omega)
        obtain ⟨b2, o2, rfl, -, -⟩ := hB j (by rw [lst_length]; omega)
        go_wp2
        refine name_wp (fun w5 => Below w.heap.size w w5 ∧ B0 ≤ w5.heap.size ∧ w5.ownsRow B0 25 2 (.slice A' j c') j (ecells (lst S j)) ∧ Holds w5 wr.heap.size 0) ⟨hb.alloc hb.size _, by simp; omega, hown.alloc _, alloc_at rfl⟩ ?_
        have hpw : w.heap.size ≤ wr.heap.size := hb.size
        clear hb hBs hown
        generalize wr.heap.size = p9 at *
        rintro w5 ⟨hb, hBs, hown, ko⟩
        obtain ⟨b', o', e', c0, c1⟩ := (hA.up hb) j (by rw [lst_length]; omega)
        cases e'
        rw [lst_at F hjn] at c0 c1
        obtain ⟨z, hz⟩ : ∃ z, z = S j := ⟨_, rfl⟩
        rw [← hz] at g1 hsuc
        clear hz h1 h2 h3 e2 e3
        have hrep := hB
        generalize F j = x at *
        -- g2 region's Add of x and what is read at c0 c1
        refine wp_region_flow1 7 (by kernel_rfl) (by kernel_rfl) (by kernel_rfl) ?_
        apply Exists.intro
        refine ⟨fun ι _ φ hφ => ?_, fun wt hwt => ?_⟩
        · have a0 := fun i => hφ.cell c0 i
          have a1 := fun i => hφ.cell c1 i
          obtain ⟨d0, d1⟩ := hφ.two ko
          simp only [List.take_succ_cons, List.take_zero]
          repeat (go_big_quiet_step ((go_at_call 45; exact flow_call hφ (g2.out _))))
          exact wpQuiet_nil rfl
        replace hb := below_next hb hb.size hwt
        replace hBs := Nat.le_trans hBs hwt.size
        replace hown := ownsn_up hown hwt
        replace ko := ko.up hwt
        clear hwt c0 c1
        simp only [List.drop_succ_cons, List.drop_zero]
        obtain ⟨s0, s1, s2, s3⟩ := blk2 ko
        go_wp2
        refine name_wp (fun w5 => Below w.heap.size w w5 ∧ B0 ≤ w5.heap.size ∧ w5.ownsRow B0 25 2 (.slice A' j c') j (ecells (lst S j)) ∧ Holds w5 p9 x) ⟨below_store2 hb hpw, by simpa using hBs, owns_offc (owns_offc hown hpo.out) hpo.out, ko.set _⟩ ?_
        clear hb hBs hown ko s0 s1 s2 s3
        rintro w5 ⟨hb, hBs, hown, ko⟩
        obtain ⟨b', o', e', c0, c1⟩ := (hrep.up hb) j (by rw [lst_length]; omega)
        cases e'
        rw [lst_at G hjk] at c0 c1
        generalize G j = y at *
        -- g1 region's Add of x and what is read at c0 c1
        refine wp_region_flow1 7 (by kernel_rfl) (by kernel_rfl) (by kernel_rfl) ?_
        apply Exists.intro
        refine ⟨fun ι _ φ hφ => ?_, fun wt hwt => ?_⟩
        · have a0 := fun i => hφ.cell c0 i
          have a1 := fun i => hφ.cell c1 i
          obtain ⟨d0, d1⟩ := hφ.two ko
          simp only [List.take_succ_cons, List.take_zero]
          repeat (go_big_quiet_step ((go_at_call 45; exact flow_call hφ (g1.out _))))
          exact wpQuiet_nil rfl
        replace hb := below_next hb hb.size hwt
        replace hBs := Nat.le_trans hBs hwt.size
        replace hown := ownsn_up hown hwt
        replace ko := ko.up hwt
        clear hwt c0 c1
        simp only [List.drop_succ_cons, List.drop_zero]
        obtain ⟨s0, s1, s2, s3⟩ := blk2 ko
        go_upto_region 10 with (fail)
        refine name_wp (fun w5 => Below w.heap.size w w5 ∧ B0 ≤ w5.heap.size ∧ w5.ownsRow B0 25 2 (.slice A' j c') j (ecells (lst S j)) ∧ Holds w5 p9 z) ⟨below_store2 hb hpw, by simpa using hBs, owns_offc (owns_offc hown hpo.out) hpo.out, ko.set _⟩ ?_
        clear hb hBs hown ko s0 s1 s2 s3
        rintro w5 ⟨hb, hBs, hown, ko⟩
        obtain ⟨s0, s1, s2, s3⟩ := blk2 ko
        have hb6 := hb.alloc hb.size (.cells #[.int .u64 (lo z), .int .u64 (hi z)] 25 (0, 0))
        have hown2 := hown.alloc (.cells #[.int .u64 (lo z), .int .u64 (hi z)] 25 (0, 0))
        have hBs2 : B0 ≤ (World.alloc w5 (.cells #[.int .u64 (lo z), .int .u64 (hi z)] 25 (0, 0))).heap.size := Nat.le_trans hBs (by simp)
        go_wp2_with (at_builtin; refine wpList_append_own _ rfl _ _ 22 rfl B0 25 i0 (.agg #[.int .u64 0, .int .u64 0]) 2 16 Tryd.underlying22 hinf.out hz0 hz1 hz2 rfl (by decide) _ _ _ rfl hown2 ⟨_, 0, none⟩ 1 1 (ecells [z]) rfl rfl (news_elem2 (by simp)) (by first | (simp [Value.oneCell']; done) | simp [ecells, Value.oneCell']) (by unfold maxLen; omega) (by omega) hBs2 ?_; intro v1 w6 hown6 hg6 _; have hb7 := grownn_below hb6 hBw hown2 hg6; have hk6 := fun (x : Nat) (hx : x < B0) => hg6.block x (by omega) (fun e => by have := (hown2.lt x e.symm).1; omega); have hsz6 := Nat.le_trans hBs2 hg6.size; clear hg6; obtain ⟨a9, c9, rfl⟩ := owns_slc hown6)
        exact ⟨⟨j + 1, a9, c9, by omega, by go_num, rfl, hb7, hsz6, by rw [hsuc.out, ecells_append]; exact hown6⟩, by simp [intOf]; omega⟩
      · have i2 : ¬ ((j : Int) < (k : Int)) := by omega
        have g2 := Lib.hid (h2.out j)
        rw [e2.out j hjn hjk] at hsuc
        obtain ⟨b, o, rfl, -, -⟩ := hA j (by rw [lst_length]; omega)
        go_wp2
        refine name_wp (fun w5 => Below w.heap.size w w5 ∧ B0 ≤ w5.heap.size ∧ w5.ownsRow B0 25 2 (.slice A' j c') j (ecells (lst S j)) ∧ Holds w5 wr.heap.size 0) ⟨hb.alloc hb.size _, by simp; omega, hown.alloc _, alloc_at rfl⟩ ?_
        have hpw : w.heap.size ≤ wr.heap.size := hb.size
        clear hb hBs hown
        generalize wr.heap.size = p9 at *
        rintro w5 ⟨hb, hBs, hown, ko⟩
        obtain ⟨b', o', e', c0, c1⟩ := (hA.up hb) j (by rw [lst_length]; omega)
        cases e'
        rw [lst_at F hjn] at c0 c1
        clear h1 h2 h3 e2 e3
        generalize F j = z at *
        -- g2 region's Add of x and what is read at c0 c1
        refine wp_region_flow1 7 (by kernel_rfl) (by kernel_rfl) (by kernel_rfl) ?_
        apply Exists.intro
        refine ⟨fun ι _ φ hφ => ?_, fun wt hwt => ?_⟩
        · have a0 := fun i => hφ.cell c0 i
          have a1 := fun i => hφ.cell c1 i
          obtain ⟨d0, d1⟩ := hφ.two ko
          simp only [List.take_succ_cons, List.take_zero]
          repeat (go_big_quiet_step ((go_at_call 45; exact flow_call hφ (g2.out _))))
          exact wpQuiet_nil rfl
        replace hb := below_next hb hb.size hwt
        replace hBs := Nat.le_trans hBs hwt.size
        replace hown := ownsn_up hown hwt
        replace ko := ko.up hwt
        clear hwt c0 c1
        simp only [List.drop_succ_cons, List.drop_zero]
        obtain ⟨s0, s1, s2, s3⟩ := blk2 ko
        go_upto_region 10 with (fail)
        refine name_wp (fun w5 => Below w.heap.size w w5 ∧ B0 ≤ w5.heap.size ∧ w5.ownsRow B0 25 2 (.slice A' j c') j (ecells (lst S j)) ∧ Holds w5 p9 z) ⟨below_store2 hb hpw, by simpa using hBs, owns_offc (owns_offc hown hpo.out) hpo.out, ko.set _⟩ ?_
        clear hb hBs hown ko s0 s1 s2 s3
        rintro w5 ⟨hb, hBs, hown, ko⟩
        obtain ⟨s0, s1, s2, s3⟩ := blk2 ko
        have hb6 := hb.alloc hb.size (.cells #[.int .u64 (lo z), .int .u64 (hi z)] 25 (0, 0))
        have hown2 := hown.alloc (.cells #[.int .u64 (lo z), .int .u64 (hi z)] 25 (0, 0))
        have hBs2 : B0 ≤ (World.alloc w5 (.cells #[.int .u64 (lo z), .int .u64 (hi z)] 25 (0, 0))).heap.size := Nat.le_trans hBs (by simp)
        go_wp2_with (at_builtin; refine wpList_append_own _ rfl _ _ 22 rfl B0 25 i0 (.agg #[.int .u64 0, .int .u64 0]) 2 16 Tryd.underlying22 hinf.out hz0 hz1 hz2 rfl (by decide) _ _ _ rfl hown2 ⟨_, 0, none⟩ 1 1 (ecells [z]) rfl rfl (news_elem2 (by simp)) (by first | (simp [Value.oneCell']; done) | simp [ecells, Value.oneCell']) (by unfold maxLen; omega) (by omega) hBs2 ?_; intro v1 w6 hown6 hg6 _; have hb7 := grownn_below hb6 hBw hown2 hg6; have hk6 := fun (x : Nat) (hx : x < B0) => hg6.block x (by omega) (fun e => by have := (hown2.lt x e.symm).1; omega); have hsz6 := Nat.le_trans hBs2 hg6.size; clear hg6; obtain ⟨a9, c9, rfl⟩ := owns_slc hown6)
        exact ⟨⟨j + 1, a9, c9, by omega, by go_num, rfl, hb7, hsz6, by rw [hsuc.out, ecells_append]; exact hown6⟩, by simp [intOf]; omega⟩
    · have i1 : ¬ ((j : Int) < (n : Int)) := by omega
      by_cases hjk : j < k
      · have i2 : (j : Int) < (k : Int) := by omega
        have g2 := Lib.hid (h3.out j)
        rw [e3.out j hjn hjk] at hsuc
        obtain ⟨b, o, rfl, -, -⟩ := hB j (by rw [lst_length]; omega)
        go_wp2
        refine name_wp (fun w5 => Below w.heap.size w w5 ∧ B0 ≤ w5.heap.size ∧ w5.ownsRow B0 25 2 (.slice A' j c') j (ecells (lst S j)) ∧ Holds w5 wr.heap.size 0) ⟨hb.alloc hb.size _, by simp; omega, hown.alloc _, alloc_at rfl⟩ ?_
        have hpw : w.heap.size ≤ wr.heap.size := hb.size
        clear hb hBs hown
        generalize wr.heap.size = p9 at *
        rintro w5 ⟨hb, hBs, hown, ko⟩
        obtain ⟨b', o', e', c0, c1⟩ := (hB.up hb) j (by rw [lst_length]; omega)
        cases e'
        rw [lst_at G hjk] at c0 c1
        clear h1 h2 h3 e2 e3
        generalize G j = z at *
        -- g2 region's Add of x and what is read at c0 c1
        refine wp_region_flow1 7 (by kernel_rfl) (by kernel_rfl) (by kernel_rfl) ?_
        apply Exists.intro
        refine ⟨fun ι _ φ hφ => ?_, fun wt hwt => ?_⟩
        · have a0 := fun i => hφ.cell c0 i
          have a1 := fun i => hφ.cell c1 i
          obtain ⟨d0, d1⟩ := hφ.two ko
          simp only [List.take_succ_cons, List.take_zero]
          repeat (go_big_quiet_step ((go_at_call 45; exact flow_call hφ (g2.out _))))
          exact wpQuiet_nil rfl
        replace hb := below_next hb hb.size hwt
        replace hBs := Nat.le_trans hBs hwt.size
        replace hown := ownsn_up hown hwt
        replace ko := ko.up hwt
        clear hwt c0 c1
        simp only [List.drop_succ_cons, List.drop_zero]
        obtain ⟨s0, s1, s2, s3⟩ := blk2 ko
        go_upto_region 10 with (fail)
        refine name_wp (fun w5 => Below w.heap.size w w5 ∧ B0 ≤ w5.heap.size ∧ w5.ownsRow B0 25 2 (.slice A' j c') j (ecells (lst S j)) ∧ Holds w5 p9 z) ⟨below_store2 hb hpw, by simpa using hBs, owns_offc (owns_offc hown hpo.out) hpo.out, ko.set _⟩ ?_
        clear hb hBs hown ko s0 s1 s2 s3
        rintro w5 ⟨hb, hBs, hown, ko⟩
        obtain ⟨s0, s1, s2, s3⟩ := blk2 ko
        have hb6 := hb.alloc hb.size (.cells #[.int .u64 (lo z), .int .u64 (hi z)] 25 (0, 0))
        have hown2 := hown.alloc (.cells #[.int .u64 (lo z), .int .u64 (hi z)] 25 (0, 0))
        have hBs2 : B0 ≤ (World.alloc w5 (.cells #[.int .u64 (lo z), .int .u64 (hi z)] 25 (0, 0))).heap.size := Nat.le_trans hBs (by simp)
        go_wp2_with (at_builtin; refine wpList_append_own _ rfl _ _ 22 rfl B0 25 i0 (.agg #[.int .u64 0, .int .u64 0]) 2 16 Tryd.underlying22 hinf.out hz0 hz1 hz2 rfl (by decide) _ _ _ rfl hown2 ⟨_, 0, none⟩ 1 1 (ecells [z]) rfl rfl (news_elem2 (by simp)) (by first | (simp [Value.oneCell']; done) | simp [ecells, Value.oneCell']) (by unfold maxLen; omega) (by omega) hBs2 ?_; intro v1 w6 hown6 hg6 _; have hb7 := grownn_below hb6 hBw hown2 hg6; have hk6 := fun (x : Nat) (hx : x < B0) => hg6.block x (by omega) (fun e => by have := (hown2.lt x e.symm).1; omega); have hsz6 := Nat.le_trans hBs2 hg6.size; clear hg6; obtain ⟨a9, c9, rfl⟩ := owns_slc hown6)
        exact ⟨⟨j + 1, a9, c9, by omega, by go_num, rfl, hb7, hsz6, by rw [hsuc.out, ecells_append]; exact hown6⟩, by simp [intOf]; omega⟩
      · have i2 : ¬ ((j : Int) < (k : Int)) := by omega
        obtain rfl : j = N := by
          rcases Nat.lt_or_ge j N with h | h
          · exact absurd (hNor.out j h) (by omega)
          · omega
        obtain ⟨A2, c2, e, hnc, hE, -⟩ := owns_out hown
        cases e
        replace hE := Lib.hid hE
        replace hnc := Lib.hid hnc
        clear hown hA hB
        go_wp2_with fail
        refine (htr.out _ _ hnc.out _ hE.out).mono ?_
        rintro e w4 ⟨A4, c4, h4, rfl, hb2, hL⟩
        replace hb := below_next hb hb.size hb2
        replace hL := Lib.hid hL
        replace h4 := Lib.hid h4
        clear hb2
        go_wp2
        go_ret
        exact ⟨A4, c4, h4.out, rfl, hb, hL.out⟩
end Go.Proofs.YtbpedpkhhjfhjaaDoor
