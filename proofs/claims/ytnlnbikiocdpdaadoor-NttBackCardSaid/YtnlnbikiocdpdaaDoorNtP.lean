/-
  The law's walk: values of more coefficients, and back; sums go along.
-/
import Derived.Test.YtnlnbikiocdpdaaDoorNtN
import Derived.Test.YtnlnbikiocdpdaaDoorSegR
import Derived.Deep.DeepCutAuto
import Derived.Deep.CutBlock
namespace Go.Proofs.YtnlnbikiocdpdaaDoor
open Go.RowKit F Flow
set_option linter.unusedVariables false
set_option linter.unusedSimpArgs false
attribute [local go_sem] eql_elem

theorem zip_lst (op : Int → Int → Int) (F G : Nat → Int) (N : Nat) : List.zipWith op (lst F N) (lst G N) = lst (fun t => op (F t) (G t)) N := by
  apply List.ext_getElem (by simp [lst])
  intro i h1 h2
  simp [lst]
theorem addvec_lst {f : Int} (ft : Ft f) (F G : Nat → Int) (N c d : Nat) (hN : N ≤ 1024) (hF : Lim F N) (hG : Lim G N) (A B : Option Addr) (w : World) (hA : ElemsAt w A (lst F N)) (hB : ElemsAt w B (lst G N)) :
    Calls Tryd.prog 16 #[.int .u8 f, .slice A N c, .slice B N d] w (VOut (fun t => add f (F t) (G t)) N w) := by
  have h := faddvec_any f (add f) (lst F N) (lst G N) A B c d hF.ok hG.ok (by rw [lst_length]; omega) (by rw [lst_length, lst_length]) ft.hval ft.hadd w hA hB
  rw [lst_length, lst_length, zip_lst] at h
  exact h
/-- So many of the law's numbers laid. -/
def soFar (f : Int) (ls : List Int) (j : Nat) (t : Nat) : Int := if t < j then redu f (ls.getD (t % ls.length) 0) else 0
theorem soFar_zero (f : Int) (ls : List Int) : soFar f ls 0 = fun _ => 0 := by
  funext t
  unfold soFar
  rw [if_neg (by omega)]
theorem soFar_nil (f : Int) {ls : List Int} (h : ls.length = 0) (j : Nat) : soFar f ls j = fun _ => 0 := by
  have : ls = [] := List.eq_nil_of_length_eq_zero h
  subst this
  funext t
  unfold soFar
  split
  · simp [redu_zero]
  · rfl
theorem soFar_set (f : Int) (ls : List Int) (j N : Nat) : (lst (soFar f ls j) N).set j (redu f (ls.getD (j % ls.length) 0)) = lst (soFar f ls (j + 1)) N := by
  rw [lst_set]
  refine lst_congr (fun p _ => ?_)
  unfold soFar
  by_cases e : p = j
  · subst e; rw [if_pos rfl, if_pos (by omega)]
  · rw [if_neg e]
    by_cases h : p < j
    · rw [if_pos h, if_pos (by omega)]
    · rw [if_neg h, if_neg (by omega)]
theorem soFar_in (f : Int) (ls : List Int) (j t : Nat) : 0 ≤ soFar f ls j t ∧ soFar f ls j t < M f := by
  unfold soFar
  split
  · exact ⟨redu_nonneg _ _, redu_lt _ _⟩
  · exact ⟨Int.le_refl _, M_pos f⟩
theorem zero_row (w : World) (N : Nat) : Row (w.alloc (.cells (ecells (List.replicate N 0)).toArray 34)) w.heap.size (lst (fun _ => 0) N) := by
  have e : lst (fun _ => 0) N = List.replicate N 0 := by
    apply List.ext_getElem (by simp [lst])
    intro i h1 h2
    simp [lst]
  rw [e]
  exact alloc_at rfl
/-- The law's two lists, and what it keeps of the world. -/
structure NB (w : World) (f : Int) (ls ms : List Int) (X g1 g2 i j : Nat) (wr : World) : Prop where
  below : Below w.heap.size w wr
  r1 : Row wr g1 (lst (soFar f ls i) X)
  r2 : Row wr g2 (lst (soFar f ms j) X)
theorem NB.up {w : World} {f : Int} {ls ms : List Int} {X g1 g2 i j : Nat} {w1 w2 : World} (h : NB w f ls ms X g1 g2 i j w1) (hb : Below w1.heap.size w1 w2) : NB w f ls ms X g1 g2 i j w2 :=
  ⟨below_next h.below h.below.size hb, h.r1.up hb, h.r2.up hb⟩
theorem NB.put1 {w : World} {f : Int} {ls ms : List Int} {X g1 g2 i j : Nat} {w1 : World} (h : NB w f ls ms X g1 g2 i j w1) (hg : w.heap.size ≤ g1) (hne : g1 ≠ g2) (hix : i < X) {z : Int} (hz : z = redu f (ls.getD (i % ls.length) 0)) :
    NB w f ls ms X g1 g2 (i + 1) j ((w1.setCell ⟨g1, i * 2, none⟩ (.int .u64 (lo z))).setCell ⟨g1, i * 2 + 1, none⟩ (.int .u64 (hi z))) :=
  ⟨(h.below.setCell (p := ⟨g1, i * 2, none⟩) hg _).setCell (p := ⟨g1, i * 2 + 1, none⟩) hg _, by rw [← soFar_set, ← hz]; exact h.r1.set (by rw [lst_length]; exact hix) z, h.r2.far (Ne.symm hne)⟩
theorem NB.put2 {w : World} {f : Int} {ls ms : List Int} {X g1 g2 i j : Nat} {w1 : World} (h : NB w f ls ms X g1 g2 i j w1) (hg : w.heap.size ≤ g2) (hne : g1 ≠ g2) (hix : j < X) {z : Int} (hz : z = redu f (ms.getD (j % ms.length) 0)) :
    NB w f ls ms X g1 g2 i (j + 1) ((w1.setCell ⟨g2, j * 2, none⟩ (.int .u64 (lo z))).setCell ⟨g2, j * 2 + 1, none⟩ (.int .u64 (hi z))) :=
  ⟨(h.below.setCell (p := ⟨g2, j * 2, none⟩) hg _).setCell (p := ⟨g2, j * 2 + 1, none⟩) hg _, h.r1.far hne, by rw [← soFar_set, ← hz]; exact h.r2.set (by rw [lst_length]; exact hix) z⟩
theorem NB.none1 {w : World} {f : Int} {ls ms : List Int} {X g1 g2 i j : Nat} {w1 : World} (h : NB w f ls ms X g1 g2 i j w1) (hl : ls.length = 0) : NB w f ls ms X g1 g2 (i + 1) j w1 :=
  ⟨h.below, by have := h.r1; rw [soFar_nil f hl] at *; exact this, h.r2⟩
theorem NB.none2 {w : World} {f : Int} {ls ms : List Int} {X g1 g2 i j : Nat} {w1 : World} (h : NB w f ls ms X g1 g2 i j w1) (hl : ms.length = 0) : NB w f ls ms X g1 g2 i (j + 1) w1 :=
  ⟨h.below, h.r1, by have := h.r2; rw [soFar_nil f hl] at *; exact this⟩
set_option maxRecDepth 20000 in
set_option maxHeartbeats 4000000 in
theorem nttBack_f (n f more : Int) (hF : ∀ w, Calls Tryd.prog 7 #[.int .u8 n] w fun e w' => e = .returned (.int .u8 f) ∧ Below w.heap.size w w') (ft : Ft f) (hR : ∀ m, m ≤ 10 → RootOf f m (rt f m)) (f0 : 0 ≤ f ∧ f ≤ 2) (r0 : 0 ≤ more)
    (A B : Option Addr) (ls ms : List Int) (N c N2 c2 : Nat) (hl : ls.length = N) (hm : N ≤ maxLen) (hls : ElemsOK ls) (hl2 : ms.length = N2) (hm2 : N2 ≤ maxLen) (hms : ElemsOK ms) (w : World) (hT : Tabs w) (hA : ElemsAt w A ls) (hB : ElemsAt w B ms) :
    Calls Tryd.prog 4 #[.int .u8 n, .slice A N c, .slice B N2 c2, .int .u8 more] w fun e w' => e = .returned (.bool true) ∧ Below w.heap.size w w' := by
  have hw8 : IntKind.i64.wrap f = f := IntWalk.i64_in _ (by omega)
  have hM := M_lt f
  unfold maxLen at hm hm2
  obtain ⟨m, hmm⟩ : ∃ m : Nat, more % 8 = (m : Int) := ⟨(more % 8).toNat, by omega⟩
  have hm7 : m ≤ 7 := by omega
  have hm10 : m ≤ 10 := by omega
  obtain ⟨X, hX⟩ : ∃ X, X = 2 ^ m := ⟨_, rfl⟩
  have hX128 : X ≤ 128 := by rw [hX]; exact Nat.pow_le_pow_right (by omega) hm7
  have hX1 : 1 ≤ X := by rw [hX]; exact two_pos m
  have hsh : ((1 : Int) * 2 ^ m) = (X : Int) := by rw [hX]; simp
  have hwr : IntKind.i64.wrap ((1 : Int) * 2 ^ m) = (X : Int) := by rw [hsh]; rw [IntKind.wrap_i64]; omega
  have hwr2 : IntKind.i64.wrap ((2 : Int) ^ m) = (X : Int) := by rw [← hwr]; simp
  have hwr3 : ((2 : Int) ^ m) = (X : Int) := by rw [← hsh]; simp
  have hmk := make_elems X (by omega)
  replace hF := Lib.hid hF
  replace hl := Lib.hid hl
  replace hl2 := Lib.hid hl2
  replace hX := Lib.hid hX
  clear hsh
  go_enter Tryd.func4, Tryd.ntmps4
  go_wp2_with fail
  refine call_then (nawake _ hT) ?_
  intro w1 hb
  go_wp2_with fail
  refine call_then (hF.out _) ?_
  intro w2 hb2
  replace hb := below_next hb hb.size hb2
  clear hb2
  go_wp2_with fail
  refine call_then (hF.out _) ?_
  intro w2 hb2
  replace hb := below_next hb hb.size hb2
  clear hb2
  go_upto_region 5 with (fail)
  go_cut [12, 13] (fun p q w' => ∃ g1 g2 : Nat, g1 ≠ g2 ∧ w.heap.size ≤ g1 ∧ w.heap.size ≤ g2 ∧ p = .slice (some ⟨g1, 0, none⟩) X X ∧ q = .slice (some ⟨g2, 0, none⟩) X X ∧ NB w f ls ms X g1 g2 0 0 w')
  case first =>
    refine segR_start (gb := w.heap.size) 6 (by kernel_rfl) (by decide) ?_
    intro v1 hv
    replace hb := below_next hb hb.size hv
    clear hv
    refine segR_batch 4 [0, 2] (by kernel_rfl) rfl (by kernel_rfl) (by decide +kernel) (by kernel_rfl) ?_
    apply Exists.intro
    refine ⟨fun ι _ φ hφ => ?_, fun v2 hv => ?_⟩
    · repeat (refine pick_step rfl ?_; go_big_quiet_step (fail))
      exact pick_end
    replace hb := below_next hb hb.size hv
    clear hv
    refine segR_more [1, 3] (by kernel_rfl) (by decide) ?_
    intro y hy
    simp only [List.mem_cons, List.not_mem_nil, or_false] at hy
    rcases hy with rfl | rfl
    · refine ⟨by decide, _, rfl, fun v3 K hv hK => ?_⟩
      replace hb := below_next hb hb.size hv
      clear hv
      replace hK := Lib.hid hK
      go_simp
      refine hK.out _ _ (Held.of_below ((Below.refl _ _).alloc (Nat.le_refl _) _)) ?_
      clear hK K
      have k1 := zero_row v3 X
      have g1s := hb.size
      replace hb := hb.alloc hb.size (.cells (ecells (List.replicate X 0)).toArray 34)
      generalize v3.alloc (.cells (ecells (List.replicate X 0)).toArray 34) = v4 at *
      generalize v3.heap.size = g1 at *
      refine segR_batch 2 [4] (by kernel_rfl) rfl (by kernel_rfl) (by decide +kernel) (by kernel_rfl) ?_
      apply Exists.intro
      refine ⟨fun ι _ φ hφ => ?_, fun v5 hv => ?_⟩
      · repeat (refine pick_step rfl ?_; go_big_quiet_step (fail))
        exact pick_end
      replace hb := below_next hb hb.size hv
      replace k1 := k1.up hv
      clear hv
      refine segR_one 3 _ (by decide) rfl (by kernel_rfl) ?_
      intro v6 K hv hK
      replace hb := below_next hb hb.size hv
      replace k1 := k1.up hv
      clear hv
      replace hK := Lib.hid hK
      go_simp
      refine hK.out _ _ (Held.of_below ((Below.refl _ _).alloc (Nat.le_refl _) _)) ?_
      clear hK K
      have k2 := zero_row v6 X
      have g2s := hb.size
      have hne : g1 ≠ v6.heap.size := Nat.ne_of_lt (lt_of_get k1)
      replace k1 := k1.alloc (.cells (ecells (List.replicate X 0)).toArray 34)
      replace hb := hb.alloc hb.size (.cells (ecells (List.replicate X 0)).toArray 34)
      generalize v6.alloc (.cells (ecells (List.replicate X 0)).toArray 34) = v7 at *
      generalize v6.heap.size = g2 at *
      refine segR_batch 0 [5] (by kernel_rfl) rfl (by kernel_rfl) (by decide +kernel) (by kernel_rfl) ?_
      apply Exists.intro
      refine ⟨fun ι _ φ hφ => ?_, fun v8 hv => ?_⟩
      · repeat (refine pick_step rfl ?_; go_big_quiet_step (fail))
        exact pick_end
      replace hb := below_next hb hb.size hv
      replace k1 := k1.up hv
      replace k2 := k2.up hv
      clear hv
      refine segR_done rfl (by kernel_rfl) ?_
      intro v9 hv
      replace hb := below_next hb hb.size hv
      replace k1 := k1.up hv
      replace k2 := k2.up hv
      clear hv
      go_wp2
      go_meet
      exact ⟨g1, g2, hne, g1s, g2s, rfl, rfl, hb, by rw [soFar_zero]; exact k1, by rw [soFar_zero]; exact k2⟩
    · refine ⟨by decide, _, rfl, fun v3 K hv hK => ?_⟩
      replace hb := below_next hb hb.size hv
      clear hv
      replace hK := Lib.hid hK
      go_simp
      refine hK.out _ _ (Held.of_below ((Below.refl _ _).alloc (Nat.le_refl _) _)) ?_
      clear hK K
      have k1 := zero_row v3 X
      have g1s := hb.size
      replace hb := hb.alloc hb.size (.cells (ecells (List.replicate X 0)).toArray 34)
      generalize v3.alloc (.cells (ecells (List.replicate X 0)).toArray 34) = v4 at *
      generalize v3.heap.size = g1 at *
      refine segR_one 1 _ (by decide) rfl (by kernel_rfl) ?_
      intro v6 K hv hK
      replace hb := below_next hb hb.size hv
      replace k1 := k1.up hv
      clear hv
      replace hK := Lib.hid hK
      go_simp
      refine hK.out _ _ (Held.of_below ((Below.refl _ _).alloc (Nat.le_refl _) _)) ?_
      clear hK K
      have k2 := zero_row v6 X
      have g2s := hb.size
      have hne : g1 ≠ v6.heap.size := Nat.ne_of_lt (lt_of_get k1)
      replace k1 := k1.alloc (.cells (ecells (List.replicate X 0)).toArray 34)
      replace hb := hb.alloc hb.size (.cells (ecells (List.replicate X 0)).toArray 34)
      generalize v6.alloc (.cells (ecells (List.replicate X 0)).toArray 34) = v7 at *
      generalize v6.heap.size = g2 at *
      refine segR_batch 0 [4, 5] (by kernel_rfl) rfl (by kernel_rfl) (by decide +kernel) (by kernel_rfl) ?_
      apply Exists.intro
      refine ⟨fun ι _ φ hφ => ?_, fun v8 hv => ?_⟩
      · repeat (refine pick_step rfl ?_; go_big_quiet_step (fail))
        exact pick_end
      replace hb := below_next hb hb.size hv
      replace k1 := k1.up hv
      replace k2 := k2.up hv
      clear hv
      refine segR_done rfl (by kernel_rfl) ?_
      intro v9 hv
      replace hb := below_next hb hb.size hv
      replace k1 := k1.up hv
      replace k2 := k2.up hv
      clear hv
      go_wp2
      go_meet
      exact ⟨g2, g1, Ne.symm hne, g2s, g1s, rfl, rfl, hb, by rw [soFar_zero]; exact k2, by rw [soFar_zero]; exact k1⟩
  case rest =>
    obtain ⟨g1, g2, hne, hg1, hg2, rfl, rfl, hnb⟩ := hcut
    clear hmk hb
    have hAw := Lib.hid hA
    have hBw := Lib.hid hB
    clear hA hB
    go_wp2
    go_loopw [42] (fun i wr => ∃ j : Nat, j ≤ X ∧ i = .int .i64 (j : Int) ∧ NB w f ls ms X g1 g2 j j wr) (fun i _ => X - (intOf i).toNat)
    case atStart => exact ⟨0, Nat.zero_le _, rfl, hnb⟩
    case round =>
      clear hnb
      obtain ⟨j, hj, rfl, hnb⟩ := hrel
      by_cases hlt : j < X
      · have i0 : (0 : Int) ≤ (j : Int) := by omega
        have i1 : (j : Int) < (X : Int) := by omega
        by_cases hl0 : N = 0
        · replace hnb := hnb.none1 (by rw [hl.out]; exact hl0)
          subst hl0
          by_cases hl20 : N2 = 0
          · replace hnb := hnb.none2 (by rw [hl2.out]; exact hl20)
            subst hl20
            go_wp2
            exact ⟨⟨j + 1, by omega, by go_num, hnb⟩, by simp [intOf]; omega⟩
          · obtain ⟨J, hJ⟩ : ∃ J, J = j % N2 := ⟨_, rfl⟩
            have hmod : (j : Int) % (N2 : Int) = (J : Int) := by rw [hJ]; omega
            have hml1 : J < N2 := by rw [hJ]; exact Nat.mod_lt _ (by omega)
            have hx : J < ms.length := by rw [hl2.out]; exact hml1
            have hJ2 : Hid (J = j % ms.length) := Lib.hid (by rw [hl2.out]; exact hJ)
            obtain ⟨b, o, hAe, c0, c1⟩ := (hBw.out.up hnb.below) J hx
            have hxk := hms.at_ hx
            obtain ⟨x, hxe⟩ : ∃ x, x = ms.getD J 0 := ⟨_, rfl⟩
            rw [← hxe] at c0 c1 hxk
            have hof := Lib.hid (of_any f x hxk.1 hxk.2)
            obtain ⟨z, hz⟩ : ∃ z, z = redu f x := ⟨_, rfl⟩
            rw [← hz] at hof
            have hz2 : Hid (z = redu f (ms.getD (j % ms.length) 0)) := Lib.hid (by rw [hz, hxe, hJ2.out])
            clear hJ hz hxe
            have n0 : (0 : Int) < (N2 : Int) := by omega
            have n1 : (J : Int) < (N2 : Int) := by omega
            have n2 : (0 : Int) ≤ (J : Int) := by omega
            subst hAe
            go_wp2_with fail
            refine call_then (hof.out _) ?_
            intro w5 hb5
            replace hnb := hnb.up hb5
            clear hb5 c0 c1
            have d0 := hnb.r2.lo (k := j) (by rw [lst_length]; exact hlt)
            have d1 := hnb.r2.hi (k := j) (by rw [lst_length]; exact hlt)
            have e0 := hnb.r2.free (j * 2)
            have e1 := hnb.r2.free (j * 2 + 1)
            replace hnb := hnb.put2 hg2 hne hlt hz2.out
            go_wp2
            exact ⟨⟨j + 1, by omega, by go_num, hnb⟩, by simp [intOf]; omega⟩
        · obtain ⟨J, hJ⟩ : ∃ J, J = j % N := ⟨_, rfl⟩
          have hmod : (j : Int) % (N : Int) = (J : Int) := by rw [hJ]; omega
          have hml1 : J < N := by rw [hJ]; exact Nat.mod_lt _ (by omega)
          have hx : J < ls.length := by rw [hl.out]; exact hml1
          have hJ2 : Hid (J = j % ls.length) := Lib.hid (by rw [hl.out]; exact hJ)
          obtain ⟨b, o, hAe, c0, c1⟩ := (hAw.out.up hnb.below) J hx
          have hxk := hls.at_ hx
          obtain ⟨x, hxe⟩ : ∃ x, x = ls.getD J 0 := ⟨_, rfl⟩
          rw [← hxe] at c0 c1 hxk
          have hof := Lib.hid (of_any f x hxk.1 hxk.2)
          obtain ⟨z, hz⟩ : ∃ z, z = redu f x := ⟨_, rfl⟩
          rw [← hz] at hof
          have hz2 : Hid (z = redu f (ls.getD (j % ls.length) 0)) := Lib.hid (by rw [hz, hxe, hJ2.out])
          clear hJ hz hxe
          have n0 : (0 : Int) < (N : Int) := by omega
          have n1 : (J : Int) < (N : Int) := by omega
          have n2 : (0 : Int) ≤ (J : Int) := by omega
          subst hAe
          go_wp2_with fail
          refine call_then (hof.out _) ?_
          intro w5 hb5
          replace hnb := hnb.up hb5
          clear hb5 c0 c1
          have d0 := hnb.r1.lo (k := j) (by rw [lst_length]; exact hlt)
          have d1 := hnb.r1.hi (k := j) (by rw [lst_length]; exact hlt)
          have e0 := hnb.r1.free (j * 2)
          have e1 := hnb.r1.free (j * 2 + 1)
          replace hnb := hnb.put1 hg1 hne hlt hz2.out
          go_upto_if 62 with (fail)
          refine name_wp (fun w6 => NB w f ls ms X g1 g2 (j + 1) j w6) hnb ?_
          clear hnb d0 d1 e0 e1 hof hz2 hJ2 hml1 hx hxk hmod n0 n1 n2
          rintro w6 hnb
          by_cases hl20 : N2 = 0
          · replace hnb := hnb.none2 (by rw [hl2.out]; exact hl20)
            subst hl20
            go_wp2
            exact ⟨⟨j + 1, by omega, by go_num, hnb⟩, by simp [intOf]; omega⟩
          · obtain ⟨J, hJ⟩ : ∃ J, J = j % N2 := ⟨_, rfl⟩
            have hmod : (j : Int) % (N2 : Int) = (J : Int) := by rw [hJ]; omega
            have hml1 : J < N2 := by rw [hJ]; exact Nat.mod_lt _ (by omega)
            have hx : J < ms.length := by rw [hl2.out]; exact hml1
            have hJ2 : Hid (J = j % ms.length) := Lib.hid (by rw [hl2.out]; exact hJ)
            obtain ⟨b, o, hAe, c0, c1⟩ := (hBw.out.up hnb.below) J hx
            have hxk := hms.at_ hx
            obtain ⟨x, hxe⟩ : ∃ x, x = ms.getD J 0 := ⟨_, rfl⟩
            rw [← hxe] at c0 c1 hxk
            have hof := Lib.hid (of_any f x hxk.1 hxk.2)
            obtain ⟨z, hz⟩ : ∃ z, z = redu f x := ⟨_, rfl⟩
            rw [← hz] at hof
            have hz2 : Hid (z = redu f (ms.getD (j % ms.length) 0)) := Lib.hid (by rw [hz, hxe, hJ2.out])
            clear hJ hz hxe
            have n0 : (0 : Int) < (N2 : Int) := by omega
            have n1 : (J : Int) < (N2 : Int) := by omega
            have n2 : (0 : Int) ≤ (J : Int) := by omega
            subst hAe
            go_wp2_with fail
            refine call_then (hof.out _) ?_
            intro w5 hb5
            replace hnb := hnb.up hb5
            clear hb5 c0 c1
            have d0 := hnb.r2.lo (k := j) (by rw [lst_length]; exact hlt)
            have d1 := hnb.r2.hi (k := j) (by rw [lst_length]; exact hlt)
            have e0 := hnb.r2.free (j * 2)
            have e1 := hnb.r2.free (j * 2 + 1)
            replace hnb := hnb.put2 hg2 hne hlt hz2.out
            go_wp2
            exact ⟨⟨j + 1, by omega, by go_num, hnb⟩, by simp [intOf]; omega⟩
      · obtain rfl : j = X := by omega
        obtain ⟨hb, hr1, hr2⟩ := hnb
        clear hAw hBw hls hms
        have hG1 := fun t (_ : t < j) => soFar_in f ls j t
        have hG2 := fun t (_ : t < j) => soFar_in f ms j t
        generalize soFar f ls j = G1 at *
        generalize soFar f ms j = G2 at *
        have hv1 := Lib.hid (fun A w hT hA => values_lst ft m hm10 G1 j j hX.out (lim_of hG1) A w hT hA)
        have hv2 := Lib.hid (fun A w hT hA => values_lst ft m hm10 G2 j j hX.out (lim_of hG2) A w hT hA)
        have hs1 := Lib.hid (fun A B w hA hB => addvec_lst ft G1 G2 j j j (by omega) (lim_of hG1) (lim_of hG2) A B w hA hB)
        have hv3 := Lib.hid (fun A w hT hA => values_lst ft m hm10 (fun t => add f (G1 t) (G2 t)) j j hX.out (lim_of (f := f) (fun t _ => add_bound f _ _)) A w hT hA)
        have hs2 := Lib.hid (fun A B w hA hB => addvec_lst ft (Dk f m G1 (power (mul f) (rt f m)) m 0) (Dk f m G2 (power (mul f) (rt f m)) m 0) j j j (by omega) (lim_of (f := f) (fun t _ => Dk_ok _ _ _ _ _ _ _)) (lim_of (f := f) (fun t _ => Dk_ok _ _ _ _ _ _ _)) A B w hA hB)
        have hcf := Lib.hid (fun A w hT hA => coefs_lst ft m hm10 (hR m hm10) G1 j j hX.out hG1 A w hT hA)
        have hsum : lst (Dk f m (fun t => add f (G1 t) (G2 t)) (power (mul f) (rt f m)) m 0) j = lst (fun t => add f (Dk f m G1 (power (mul f) (rt f m)) m 0 t) (Dk f m G2 (power (mul f) (rt f m)) m 0 t)) j := lst_congr (fun p hp => sum_eq (hR m hm10) (fun t ht => hG1 t (by rw [hX.out]; exact ht)) (fun t ht => hG2 t (by rw [hX.out]; exact ht)) (by rw [← hX.out]; exact hp))
        have hsm1 := Lib.hid (fun F A B w hA hB => rsame_eq (lst F j) A B j j (by rw [lst_length]; omega) w hA hB)
        simp only [lst_length] at hsm1
        unfold VOut at hv1 hv2 hs1 hv3 hs2 hcf
        rw [hsum] at hv3
        generalize Dk f m G1 (power (mul f) (rt f m)) m 0 = V1 at *
        generalize Dk f m G2 (power (mul f) (rt f m)) m 0 = V2 at *
        clear hsum hG1 hG2 ft hR
        go_wp2_with fail
        refine (hv1.out _ _ (hT.up hb) hr1.elems).mono ?_
        rintro e w3 ⟨ga, rfl, hb2, hg, hra⟩
        replace hb := below_next hb hb.size hb2
        replace hr1 := hr1.up hb2
        replace hr2 := hr2.up hb2
        clear hb2 hg hv1
        go_wp2_with fail
        refine (hv2.out _ _ (hT.up hb) hr2.elems).mono ?_
        rintro e w3 ⟨gb, rfl, hb2, hg, hrb⟩
        replace hb := below_next hb hb.size hb2
        replace hr1 := hr1.up hb2
        replace hr2 := hr2.up hb2
        replace hra := hra.up hb2
        clear hb2 hg hv2
        go_wp2_with fail
        refine (hs1.out _ _ _ hr1.elems hr2.elems).mono ?_
        rintro e w3 ⟨gs, rfl, hb2, hg, hrs⟩
        replace hb := below_next hb hb.size hb2
        replace hr1 := hr1.up hb2
        replace hra := hra.up hb2
        replace hrb := hrb.up hb2
        clear hb2 hg hs1 hr2
        go_wp2_with fail
        refine (hv3.out _ _ (hT.up hb) hrs.elems).mono ?_
        rintro e w3 ⟨gc, rfl, hb2, hg, hrc⟩
        replace hb := below_next hb hb.size hb2
        replace hr1 := hr1.up hb2
        replace hra := hra.up hb2
        replace hrb := hrb.up hb2
        clear hb2 hg hv3 hrs
        go_wp2_with fail
        refine (hs2.out _ _ _ hra.elems hrb.elems).mono ?_
        rintro e w3 ⟨gd, rfl, hb2, hg, hrd⟩
        replace hb := below_next hb hb.size hb2
        replace hr1 := hr1.up hb2
        replace hra := hra.up hb2
        replace hrc := hrc.up hb2
        clear hb2 hg hs2 hrb
        go_wp2_with fail
        refine (hcf.out _ _ (hT.up hb) hra.elems).mono ?_
        rintro e w3 ⟨ge, rfl, hb2, hg, hre⟩
        replace hb := below_next hb hb.size hb2
        replace hr1 := hr1.up hb2
        replace hrc := hrc.up hb2
        replace hrd := hrd.up hb2
        clear hb2 hg hcf hra
        go_wp2_with fail
        refine call_then (hsm1.out _ _ _ _ hrc.elems hrd.elems) ?_
        intro w4 hb2
        replace hb := below_next hb hb.size hb2
        replace hr1 := hr1.up hb2
        replace hre := hre.up hb2
        clear hb2 hrc hrd
        go_wp2_with fail
        refine call_then (hsm1.out _ _ _ _ hre.elems hr1.elems) ?_
        intro w2 hb2
        replace hb := below_next hb hb.size hb2
        clear hb2
        go_wp2
        go_ret
        exact ⟨rfl, hb⟩
end Go.Proofs.YtnlnbikiocdpdaaDoor
