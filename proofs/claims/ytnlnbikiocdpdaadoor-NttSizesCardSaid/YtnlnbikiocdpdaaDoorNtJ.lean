/-
  The law's own first step; any length, any number: whether they may be.
-/
import Derived.Test.YtnlnbikiocdpdaaDoorNtI
import Derived.Deep.DeepCutAuto
import Derived.Deep.CutBlock
namespace Go.Proofs.YtnlnbikiocdpdaaDoor
open Go.RowKit F Flow
set_option linter.unusedVariables false
set_option linter.unusedSimpArgs false
attribute [local go_sem] eql_elem

set_option maxHeartbeats 2000000 in
theorem nawake (w : World) (hT : Tabs w) : Calls Tryd.prog 6 #[] w fun e w' => e = .returned (.bool true) ∧ Below w.heap.size w w' := by
  have hv := Lib.hid (fun A c w hT hA => values_any ft_one 1 (by omega) [1, 1] 2 c rfl rfl (by intro x hx; simp at hx; omega) A w hT hA)
  have hr : lst (Dk 1 1 (fun i => [1, 1].getD i 0) (power (mul 1) (rt 1 1)) 1 0) 2 = [2, 0] := by decide +kernel
  unfold VOut at hv
  rw [hr] at hv
  clear hr
  go_enter Tryd.func6, Tryd.ntmps6
  go_wp2_with fail
  have k0 : Row (w.alloc (.cells #[.int .u64 1, .int .u64 0, .int .u64 1, .int .u64 0] 34 (0, 0))) w.heap.size [1, 1] := alloc_at rfl
  refine (hv.out _ _ _ (hT.up ((Below.refl _ _).alloc (Nat.le_refl _) _)) k0.elems).mono ?_
  rintro e w1 ⟨g, rfl, hb, hg, hr⟩
  have hb2 := below_next ((Below.refl _ _).alloc (Nat.le_refl _) (.cells #[.int .u64 1, .int .u64 0, .int .u64 1, .int .u64 0] 34 (0, 0))) (by simp) hb
  have a0 : w1.cell? ⟨g, 0, none⟩ = some (.int .u64 2) := hr.lo (k := 0) (by decide)
  have a1 : w1.cell? ⟨g, 1, none⟩ = some (.int .u64 0) := hr.hi (k := 0) (by decide)
  have a2 : w1.cell? ⟨g, 2, none⟩ = some (.int .u64 0) := hr.lo (k := 1) (by decide)
  have a3 : w1.cell? ⟨g, 3, none⟩ = some (.int .u64 0) := hr.hi (k := 1) (by decide)
  clear hv k0 hr hb hg
  go_wp2
  go_ret
  exact ⟨rfl, hb2⟩
/-- What both say of a length. -/
def LogRel (i : Int) (ok : Bool) (want : Int) : Prop := (ok = true ∧ want = i ∧ 0 ≤ i ∧ i ≤ 10) ∨ (ok = false ∧ i = 0 ∧ want = -1)
theorem logs (n : Int) : ∃ i ok want, LogRel i ok want ∧ (∀ w, Tabs w → Calls Tryd.prog 17 #[.int .i64 n] w fun e w' => e = .returned (.tuple #[.int .i64 i, .bool ok]) ∧ Below w.heap.size w w') ∧
    (∀ w, Calls Tryd.prog 11 #[.int .i64 n] w fun e w' => e = .returned (.int .i64 want) ∧ Below w.heap.size w w') := by
  by_cases h : ∃ k, k ≤ 10 ∧ ((2 ^ k : Nat) : Int) = n
  · obtain ⟨k, hk, rfl⟩ := h
    refine ⟨(k : Int), true, (k : Int), .inl ⟨rfl, rfl, by omega, by omega⟩, fun w hT => nlog_pow k hk w hT, fun w => (llog_all _ w).mono ?_⟩
    rintro e w' ⟨⟨k', hk', he, rfl⟩ | ⟨hno, rfl⟩, hb⟩
    · obtain rfl : k' = k := two_inj (by omega)
      exact ⟨rfl, hb⟩
    · exact absurd rfl (hno k hk)
  · have hno : ∀ k, k ≤ 10 → ((2 ^ k : Nat) : Int) ≠ n := fun k hk he => h ⟨k, hk, he⟩
    refine ⟨0, false, -1, .inr ⟨rfl, rfl, rfl⟩, fun w _ => nlog_none n hno w, fun w => (llog_all _ w).mono ?_⟩
    rintro e w' ⟨⟨k', hk', he, rfl⟩ | ⟨_, rfl⟩, hb⟩
    · exact absurd he (hno k' hk')
    · exact ⟨rfl, hb⟩
set_option maxRecDepth 20000 in
set_option maxHeartbeats 4000000 in
theorem sizes_none (n k f : Int) (h : NoField f) (A : Option Addr) (N c : Nat) (hN : N ≤ 70) (w : World) (hT : Tabs w) : Calls Tryd.prog 5 #[.int .i64 n, .int .i64 k, .int .u8 f, .slice A N c] w fun e w' => e = .returned (.bool true) ∧ Below w.heap.size w w' := by
  obtain ⟨i, ok, want, hrl, hnl, hll⟩ := logs n
  replace hnl := Lib.hid hnl
  replace hll := Lib.hid hll
  have hN70 : (N : Int) ≤ 70 := by omega
  have hpt := Lib.hid (npoints_none f k h)
  have hvl := Lib.hid (values_none f (.slice A N c) h)
  have hcf := Lib.hid (coefs_none f (.slice A N c) h)
  obtain ⟨o1, o2⟩ := h
  have o3 : (f != 1) = true := by rw [bne, o1]; rfl
  have o4 : (f != 2) = true := by rw [bne, o2]; rfl
  rcases hrl with ⟨rfl, rfl, h0, h1⟩ | ⟨rfl, rfl, rfl⟩
  · go_enter Tryd.func5, Tryd.ntmps5
    go_wp2_with fail
    refine call_then (nawake _ hT) ?_
    intro w1 hb
    go_wp2_with fail
    refine call_then (hnl.out _ (hT.up hb)) ?_
    intro w2 hb2
    replace hb := below_next hb hb.size hb2
    clear hb2
    go_wp2_with fail
    refine call_then (hll.out _) ?_
    intro w2 hb2
    replace hb := below_next hb hb.size hb2
    clear hb2 hnl hll
    go_upto_block 0 with (fail)
    go_cut [12] (fun x w' => ∃ j X : Nat, X = 2 ^ j ∧ NextIs n j ∧ X ≤ 1024 ∧ x = .int .i64 (X : Int) ∧ w' = w2)
    case first =>
      go_wp2
      go_loopw [12] (fun x wr => ∃ j X : Nat, Hid (X = 2 ^ j) ∧ j ≤ 10 ∧ X ≤ 1024 ∧ 1 ≤ X ∧ x = .int .i64 (X : Int) ∧ Hid (∀ t, t < j → ((2 ^ t : Nat) : Int) < n) ∧ wr = w2) (fun x _ => 1025 - (intOf x).toNat)
      case atStart => exact ⟨0, 1, Lib.hid rfl, by omega, by omega, by omega, rfl, Lib.hid (fun t ht => absurd ht (Nat.not_lt_zero _)), rfl⟩
      case round =>
        obtain ⟨j, X, hX, hj, hX2, hX1, rfl, hno, rfl⟩ := hrel
        by_cases h1 : (X : Int) < n
        · by_cases h2 : X < 1024
          · have x2 : (X : Int) < 1024 := by omega
            have hj2 : j < 10 := by
              rcases Nat.lt_or_ge j 10 with h | h
              · exact h
              · obtain rfl : j = 10 := by omega
                have := hX.out
                omega
            have hno2 : Hid (∀ t, t < j + 1 → ((2 ^ t : Nat) : Int) < n) := Lib.hid (fun t ht => by
              by_cases e : t = j
              · subst e; rw [← hX.out]; exact h1
              · exact hno.out t (by omega))
            go_wp2
            exact ⟨⟨j + 1, X * 2, Lib.hid (by have := hX.out; rw [Nat.pow_succ]; omega), by omega, by have := two_le (j := j + 1) (by omega); have := hX.out; rw [Nat.pow_succ] at *; omega, by omega, by go_num, hno2, trivial⟩, by simp [intOf]; omega⟩
          · obtain rfl : X = 1024 := by omega
            have hj10 : j = 10 := two_inj (b := 10) (by have := hX.out; omega)
            go_wp2
            go_meet
            exact ⟨j, 1024, hX.out, ⟨hj, hno.out, .inr hj10⟩, by omega, rfl, rfl⟩
        · have x2 : ¬ ((X : Int) < n) := h1
          go_wp2
          go_meet
          exact ⟨j, X, hX.out, ⟨hj, hno.out, .inl (by rw [← hX.out]; omega)⟩, by omega, rfl, rfl⟩
    case rest =>
      obtain ⟨j, X, hX, hnx, hX2, rfl, rfl⟩ := hcut
      have hnn : Hid (∀ w, Calls Tryd.prog 18 #[.int .i64 n] w fun e w' => e = .returned (.int .i64 (X : Int)) ∧ Below w.heap.size w w') := Lib.hid (fun w => (nnext_any n w).mono (by
        rintro e w' ⟨j', X', rfl, hnx', rfl, hb⟩
        rw [next_uniq hnx' hnx, ← hX]
        exact ⟨rfl, hb⟩))
      replace hnx := Lib.hid hnx
      replace hX := Lib.hid hX
      go_wp2_with fail
      refine call_then (hpt.out _) ?_
      intro w3 hb2
      replace hb := below_next hb hb.size hb2
      clear hb2
      go_wp2_with fail
      refine call_then (hnn.out _) ?_
      intro w3 hb2
      replace hb := below_next hb hb.size hb2
      clear hb2
      go_wp2_with fail
      refine call_then (hvl.out _) ?_
      intro w3 hb2
      replace hb := below_next hb hb.size hb2
      clear hb2
      go_wp2_with fail
      refine call_then (hcf.out _) ?_
      intro w3 hb2
      replace hb := below_next hb hb.size hb2
      clear hb2
      go_wp2
      go_ret
      exact ⟨rfl, hb⟩
  · go_enter Tryd.func5, Tryd.ntmps5
    go_wp2_with fail
    refine call_then (nawake _ hT) ?_
    intro w1 hb
    go_wp2_with fail
    refine call_then (hnl.out _ (hT.up hb)) ?_
    intro w2 hb2
    replace hb := below_next hb hb.size hb2
    clear hb2
    go_wp2_with fail
    refine call_then (hll.out _) ?_
    intro w2 hb2
    replace hb := below_next hb hb.size hb2
    clear hb2 hnl hll
    go_upto_block 0 with (fail)
    go_cut [12] (fun x w' => ∃ j X : Nat, X = 2 ^ j ∧ NextIs n j ∧ X ≤ 1024 ∧ x = .int .i64 (X : Int) ∧ w' = w2)
    case first =>
      go_wp2
      go_loopw [12] (fun x wr => ∃ j X : Nat, Hid (X = 2 ^ j) ∧ j ≤ 10 ∧ X ≤ 1024 ∧ 1 ≤ X ∧ x = .int .i64 (X : Int) ∧ Hid (∀ t, t < j → ((2 ^ t : Nat) : Int) < n) ∧ wr = w2) (fun x _ => 1025 - (intOf x).toNat)
      case atStart => exact ⟨0, 1, Lib.hid rfl, by omega, by omega, by omega, rfl, Lib.hid (fun t ht => absurd ht (Nat.not_lt_zero _)), rfl⟩
      case round =>
        obtain ⟨j, X, hX, hj, hX2, hX1, rfl, hno, rfl⟩ := hrel
        by_cases h1 : (X : Int) < n
        · by_cases h2 : X < 1024
          · have x2 : (X : Int) < 1024 := by omega
            have hj2 : j < 10 := by
              rcases Nat.lt_or_ge j 10 with h | h
              · exact h
              · obtain rfl : j = 10 := by omega
                have := hX.out
                omega
            have hno2 : Hid (∀ t, t < j + 1 → ((2 ^ t : Nat) : Int) < n) := Lib.hid (fun t ht => by
              by_cases e : t = j
              · subst e; rw [← hX.out]; exact h1
              · exact hno.out t (by omega))
            go_wp2
            exact ⟨⟨j + 1, X * 2, Lib.hid (by have := hX.out; rw [Nat.pow_succ]; omega), by omega, by have := two_le (j := j + 1) (by omega); have := hX.out; rw [Nat.pow_succ] at *; omega, by omega, by go_num, hno2, trivial⟩, by simp [intOf]; omega⟩
          · obtain rfl : X = 1024 := by omega
            have hj10 : j = 10 := two_inj (b := 10) (by have := hX.out; omega)
            go_wp2
            go_meet
            exact ⟨j, 1024, hX.out, ⟨hj, hno.out, .inr hj10⟩, by omega, rfl, rfl⟩
        · have x2 : ¬ ((X : Int) < n) := h1
          go_wp2
          go_meet
          exact ⟨j, X, hX.out, ⟨hj, hno.out, .inl (by rw [← hX.out]; omega)⟩, by omega, rfl, rfl⟩
    case rest =>
      obtain ⟨j, X, hX, hnx, hX2, rfl, rfl⟩ := hcut
      have hnn : Hid (∀ w, Calls Tryd.prog 18 #[.int .i64 n] w fun e w' => e = .returned (.int .i64 (X : Int)) ∧ Below w.heap.size w w') := Lib.hid (fun w => (nnext_any n w).mono (by
        rintro e w' ⟨j', X', rfl, hnx', rfl, hb⟩
        rw [next_uniq hnx' hnx, ← hX]
        exact ⟨rfl, hb⟩))
      replace hnx := Lib.hid hnx
      replace hX := Lib.hid hX
      go_wp2_with fail
      refine call_then (hpt.out _) ?_
      intro w3 hb2
      replace hb := below_next hb hb.size hb2
      clear hb2
      go_wp2_with fail
      refine call_then (hnn.out _) ?_
      intro w3 hb2
      replace hb := below_next hb hb.size hb2
      clear hb2
      go_wp2_with fail
      refine call_then (hvl.out _) ?_
      intro w3 hb2
      replace hb := below_next hb hb.size hb2
      clear hb2
      go_wp2_with fail
      refine call_then (hcf.out _) ?_
      intro w3 hb2
      replace hb := below_next hb hb.size hb2
      clear hb2
      go_wp2
      go_ret
      exact ⟨rfl, hb⟩
set_option maxRecDepth 20000 in
set_option maxHeartbeats 4000000 in
theorem sizes_bb_one (n k : Int) (hk : k < 0 ∨ 10 < k) (A : Option Addr) (N c : Nat) (hN : N ≤ 70) (hp : ∀ k, k ≤ 10 → 2 ^ k ≠ N) (w : World) (hT : Tabs w) : Calls Tryd.prog 5 #[.int .i64 n, .int .i64 k, .int .u8 1, .slice A N c] w fun e w' => e = .returned (.bool true) ∧ Below w.heap.size w w' := by
  obtain ⟨i, ok, want, hrl, hnl, hll⟩ := logs n
  replace hnl := Lib.hid hnl
  replace hll := Lib.hid hll
  have hN70 : (N : Int) ≤ 70 := by omega
  have hpt := Lib.hid (npoints_range ft_one k hk)
  have hvl := Lib.hid (values_size ft_one N c hp A)
  have hcf := Lib.hid (coefs_size ft_one N c hp A)
  have hlN : Hid (∀ w, Calls Tryd.prog 11 #[.int .i64 (N : Int)] w fun e w' => e = .returned (.int .i64 (-1)) ∧ Below w.heap.size w w') := Lib.hid (fun w => (llog_all _ w).mono (by
    rintro e w' ⟨⟨k', hk', he, rfl⟩ | ⟨_, rfl⟩, hb⟩
    · exact absurd (by omega) (hp k' hk')
    · exact ⟨rfl, hb⟩))
  clear hp
  rcases hk with hk | hk
  · rcases hrl with ⟨rfl, rfl, h0, h1⟩ | ⟨rfl, rfl, rfl⟩
    · go_enter Tryd.func5, Tryd.ntmps5
      go_wp2_with fail
      refine call_then (nawake _ hT) ?_
      intro w1 hb
      go_wp2_with fail
      refine call_then (hnl.out _ (hT.up hb)) ?_
      intro w2 hb2
      replace hb := below_next hb hb.size hb2
      clear hb2
      go_wp2_with fail
      refine call_then (hll.out _) ?_
      intro w2 hb2
      replace hb := below_next hb hb.size hb2
      clear hb2 hnl hll
      go_upto_block 0 with (fail)
      go_cut [12] (fun x w' => ∃ j X : Nat, X = 2 ^ j ∧ NextIs n j ∧ X ≤ 1024 ∧ x = .int .i64 (X : Int) ∧ w' = w2)
      case first =>
        go_wp2
        go_loopw [12] (fun x wr => ∃ j X : Nat, Hid (X = 2 ^ j) ∧ j ≤ 10 ∧ X ≤ 1024 ∧ 1 ≤ X ∧ x = .int .i64 (X : Int) ∧ Hid (∀ t, t < j → ((2 ^ t : Nat) : Int) < n) ∧ wr = w2) (fun x _ => 1025 - (intOf x).toNat)
        case atStart => exact ⟨0, 1, Lib.hid rfl, by omega, by omega, by omega, rfl, Lib.hid (fun t ht => absurd ht (Nat.not_lt_zero _)), rfl⟩
        case round =>
          obtain ⟨j, X, hX, hj, hX2, hX1, rfl, hno, rfl⟩ := hrel
          by_cases h1 : (X : Int) < n
          · by_cases h2 : X < 1024
            · have x2 : (X : Int) < 1024 := by omega
              have hj2 : j < 10 := by
                rcases Nat.lt_or_ge j 10 with h | h
                · exact h
                · obtain rfl : j = 10 := by omega
                  have := hX.out
                  omega
              have hno2 : Hid (∀ t, t < j + 1 → ((2 ^ t : Nat) : Int) < n) := Lib.hid (fun t ht => by
                by_cases e : t = j
                · subst e; rw [← hX.out]; exact h1
                · exact hno.out t (by omega))
              go_wp2
              exact ⟨⟨j + 1, X * 2, Lib.hid (by have := hX.out; rw [Nat.pow_succ]; omega), by omega, by have := two_le (j := j + 1) (by omega); have := hX.out; rw [Nat.pow_succ] at *; omega, by omega, by go_num, hno2, trivial⟩, by simp [intOf]; omega⟩
            · obtain rfl : X = 1024 := by omega
              have hj10 : j = 10 := two_inj (b := 10) (by have := hX.out; omega)
              go_wp2
              go_meet
              exact ⟨j, 1024, hX.out, ⟨hj, hno.out, .inr hj10⟩, by omega, rfl, rfl⟩
          · have x2 : ¬ ((X : Int) < n) := h1
            go_wp2
            go_meet
            exact ⟨j, X, hX.out, ⟨hj, hno.out, .inl (by rw [← hX.out]; omega)⟩, by omega, rfl, rfl⟩
      case rest =>
        obtain ⟨j, X, hX, hnx, hX2, rfl, rfl⟩ := hcut
        have hnn : Hid (∀ w, Calls Tryd.prog 18 #[.int .i64 n] w fun e w' => e = .returned (.int .i64 (X : Int)) ∧ Below w.heap.size w w') := Lib.hid (fun w => (nnext_any n w).mono (by
          rintro e w' ⟨j', X', rfl, hnx', rfl, hb⟩
          rw [next_uniq hnx' hnx, ← hX]
          exact ⟨rfl, hb⟩))
        replace hnx := Lib.hid hnx
        replace hX := Lib.hid hX
        go_wp2_with fail
        refine call_then (hpt.out _) ?_
        intro w3 hb2
        replace hb := below_next hb hb.size hb2
        clear hb2
        go_wp2_with fail
        refine call_then (hnn.out _) ?_
        intro w3 hb2
        replace hb := below_next hb hb.size hb2
        clear hb2
        go_wp2_with fail
        refine call_then (hvl.out _) ?_
        intro w3 hb2
        replace hb := below_next hb hb.size hb2
        clear hb2
        go_wp2_with fail
        refine call_then (hcf.out _) ?_
        intro w3 hb2
        replace hb := below_next hb hb.size hb2
        clear hb2
        go_wp2_with fail
        refine call_then (hlN.out _) ?_
        intro w3 hb2
        replace hb := below_next hb hb.size hb2
        clear hb2
        go_wp2
        go_ret
        exact ⟨rfl, hb⟩
    · go_enter Tryd.func5, Tryd.ntmps5
      go_wp2_with fail
      refine call_then (nawake _ hT) ?_
      intro w1 hb
      go_wp2_with fail
      refine call_then (hnl.out _ (hT.up hb)) ?_
      intro w2 hb2
      replace hb := below_next hb hb.size hb2
      clear hb2
      go_wp2_with fail
      refine call_then (hll.out _) ?_
      intro w2 hb2
      replace hb := below_next hb hb.size hb2
      clear hb2 hnl hll
      go_upto_block 0 with (fail)
      go_cut [12] (fun x w' => ∃ j X : Nat, X = 2 ^ j ∧ NextIs n j ∧ X ≤ 1024 ∧ x = .int .i64 (X : Int) ∧ w' = w2)
      case first =>
        go_wp2
        go_loopw [12] (fun x wr => ∃ j X : Nat, Hid (X = 2 ^ j) ∧ j ≤ 10 ∧ X ≤ 1024 ∧ 1 ≤ X ∧ x = .int .i64 (X : Int) ∧ Hid (∀ t, t < j → ((2 ^ t : Nat) : Int) < n) ∧ wr = w2) (fun x _ => 1025 - (intOf x).toNat)
        case atStart => exact ⟨0, 1, Lib.hid rfl, by omega, by omega, by omega, rfl, Lib.hid (fun t ht => absurd ht (Nat.not_lt_zero _)), rfl⟩
        case round =>
          obtain ⟨j, X, hX, hj, hX2, hX1, rfl, hno, rfl⟩ := hrel
          by_cases h1 : (X : Int) < n
          · by_cases h2 : X < 1024
            · have x2 : (X : Int) < 1024 := by omega
              have hj2 : j < 10 := by
                rcases Nat.lt_or_ge j 10 with h | h
                · exact h
                · obtain rfl : j = 10 := by omega
                  have := hX.out
                  omega
              have hno2 : Hid (∀ t, t < j + 1 → ((2 ^ t : Nat) : Int) < n) := Lib.hid (fun t ht => by
                by_cases e : t = j
                · subst e; rw [← hX.out]; exact h1
                · exact hno.out t (by omega))
              go_wp2
              exact ⟨⟨j + 1, X * 2, Lib.hid (by have := hX.out; rw [Nat.pow_succ]; omega), by omega, by have := two_le (j := j + 1) (by omega); have := hX.out; rw [Nat.pow_succ] at *; omega, by omega, by go_num, hno2, trivial⟩, by simp [intOf]; omega⟩
            · obtain rfl : X = 1024 := by omega
              have hj10 : j = 10 := two_inj (b := 10) (by have := hX.out; omega)
              go_wp2
              go_meet
              exact ⟨j, 1024, hX.out, ⟨hj, hno.out, .inr hj10⟩, by omega, rfl, rfl⟩
          · have x2 : ¬ ((X : Int) < n) := h1
            go_wp2
            go_meet
            exact ⟨j, X, hX.out, ⟨hj, hno.out, .inl (by rw [← hX.out]; omega)⟩, by omega, rfl, rfl⟩
      case rest =>
        obtain ⟨j, X, hX, hnx, hX2, rfl, rfl⟩ := hcut
        have hnn : Hid (∀ w, Calls Tryd.prog 18 #[.int .i64 n] w fun e w' => e = .returned (.int .i64 (X : Int)) ∧ Below w.heap.size w w') := Lib.hid (fun w => (nnext_any n w).mono (by
          rintro e w' ⟨j', X', rfl, hnx', rfl, hb⟩
          rw [next_uniq hnx' hnx, ← hX]
          exact ⟨rfl, hb⟩))
        replace hnx := Lib.hid hnx
        replace hX := Lib.hid hX
        go_wp2_with fail
        refine call_then (hpt.out _) ?_
        intro w3 hb2
        replace hb := below_next hb hb.size hb2
        clear hb2
        go_wp2_with fail
        refine call_then (hnn.out _) ?_
        intro w3 hb2
        replace hb := below_next hb hb.size hb2
        clear hb2
        go_wp2_with fail
        refine call_then (hvl.out _) ?_
        intro w3 hb2
        replace hb := below_next hb hb.size hb2
        clear hb2
        go_wp2_with fail
        refine call_then (hcf.out _) ?_
        intro w3 hb2
        replace hb := below_next hb hb.size hb2
        clear hb2
        go_wp2_with fail
        refine call_then (hlN.out _) ?_
        intro w3 hb2
        replace hb := below_next hb hb.size hb2
        clear hb2
        go_wp2
        go_ret
        exact ⟨rfl, hb⟩
  · rcases hrl with ⟨rfl, rfl, h0, h1⟩ | ⟨rfl, rfl, rfl⟩
    · go_enter Tryd.func5, Tryd.ntmps5
      go_wp2_with fail
      refine call_then (nawake _ hT) ?_
      intro w1 hb
      go_wp2_with fail
      refine call_then (hnl.out _ (hT.up hb)) ?_
      intro w2 hb2
      replace hb := below_next hb hb.size hb2
      clear hb2
      go_wp2_with fail
      refine call_then (hll.out _) ?_
      intro w2 hb2
      replace hb := below_next hb hb.size hb2
      clear hb2 hnl hll
      go_upto_block 0 with (fail)
      go_cut [12] (fun x w' => ∃ j X : Nat, X = 2 ^ j ∧ NextIs n j ∧ X ≤ 1024 ∧ x = .int .i64 (X : Int) ∧ w' = w2)
      case first =>
        go_wp2
        go_loopw [12] (fun x wr => ∃ j X : Nat, Hid (X = 2 ^ j) ∧ j ≤ 10 ∧ X ≤ 1024 ∧ 1 ≤ X ∧ x = .int .i64 (X : Int) ∧ Hid (∀ t, t < j → ((2 ^ t : Nat) : Int) < n) ∧ wr = w2) (fun x _ => 1025 - (intOf x).toNat)
        case atStart => exact ⟨0, 1, Lib.hid rfl, by omega, by omega, by omega, rfl, Lib.hid (fun t ht => absurd ht (Nat.not_lt_zero _)), rfl⟩
        case round =>
          obtain ⟨j, X, hX, hj, hX2, hX1, rfl, hno, rfl⟩ := hrel
          by_cases h1 : (X : Int) < n
          · by_cases h2 : X < 1024
            · have x2 : (X : Int) < 1024 := by omega
              have hj2 : j < 10 := by
                rcases Nat.lt_or_ge j 10 with h | h
                · exact h
                · obtain rfl : j = 10 := by omega
                  have := hX.out
                  omega
              have hno2 : Hid (∀ t, t < j + 1 → ((2 ^ t : Nat) : Int) < n) := Lib.hid (fun t ht => by
                by_cases e : t = j
                · subst e; rw [← hX.out]; exact h1
                · exact hno.out t (by omega))
              go_wp2
              exact ⟨⟨j + 1, X * 2, Lib.hid (by have := hX.out; rw [Nat.pow_succ]; omega), by omega, by have := two_le (j := j + 1) (by omega); have := hX.out; rw [Nat.pow_succ] at *; omega, by omega, by go_num, hno2, trivial⟩, by simp [intOf]; omega⟩
            · obtain rfl : X = 1024 := by omega
              have hj10 : j = 10 := two_inj (b := 10) (by have := hX.out; omega)
              go_wp2
              go_meet
              exact ⟨j, 1024, hX.out, ⟨hj, hno.out, .inr hj10⟩, by omega, rfl, rfl⟩
          · have x2 : ¬ ((X : Int) < n) := h1
            go_wp2
            go_meet
            exact ⟨j, X, hX.out, ⟨hj, hno.out, .inl (by rw [← hX.out]; omega)⟩, by omega, rfl, rfl⟩
      case rest =>
        obtain ⟨j, X, hX, hnx, hX2, rfl, rfl⟩ := hcut
        have hnn : Hid (∀ w, Calls Tryd.prog 18 #[.int .i64 n] w fun e w' => e = .returned (.int .i64 (X : Int)) ∧ Below w.heap.size w w') := Lib.hid (fun w => (nnext_any n w).mono (by
          rintro e w' ⟨j', X', rfl, hnx', rfl, hb⟩
          rw [next_uniq hnx' hnx, ← hX]
          exact ⟨rfl, hb⟩))
        replace hnx := Lib.hid hnx
        replace hX := Lib.hid hX
        go_wp2_with fail
        refine call_then (hpt.out _) ?_
        intro w3 hb2
        replace hb := below_next hb hb.size hb2
        clear hb2
        go_wp2_with fail
        refine call_then (hnn.out _) ?_
        intro w3 hb2
        replace hb := below_next hb hb.size hb2
        clear hb2
        go_wp2_with fail
        refine call_then (hvl.out _) ?_
        intro w3 hb2
        replace hb := below_next hb hb.size hb2
        clear hb2
        go_wp2_with fail
        refine call_then (hcf.out _) ?_
        intro w3 hb2
        replace hb := below_next hb hb.size hb2
        clear hb2
        go_wp2_with fail
        refine call_then (hlN.out _) ?_
        intro w3 hb2
        replace hb := below_next hb hb.size hb2
        clear hb2
        go_wp2
        go_ret
        exact ⟨rfl, hb⟩
    · go_enter Tryd.func5, Tryd.ntmps5
      go_wp2_with fail
      refine call_then (nawake _ hT) ?_
      intro w1 hb
      go_wp2_with fail
      refine call_then (hnl.out _ (hT.up hb)) ?_
      intro w2 hb2
      replace hb := below_next hb hb.size hb2
      clear hb2
      go_wp2_with fail
      refine call_then (hll.out _) ?_
      intro w2 hb2
      replace hb := below_next hb hb.size hb2
      clear hb2 hnl hll
      go_upto_block 0 with (fail)
      go_cut [12] (fun x w' => ∃ j X : Nat, X = 2 ^ j ∧ NextIs n j ∧ X ≤ 1024 ∧ x = .int .i64 (X : Int) ∧ w' = w2)
      case first =>
        go_wp2
        go_loopw [12] (fun x wr => ∃ j X : Nat, Hid (X = 2 ^ j) ∧ j ≤ 10 ∧ X ≤ 1024 ∧ 1 ≤ X ∧ x = .int .i64 (X : Int) ∧ Hid (∀ t, t < j → ((2 ^ t : Nat) : Int) < n) ∧ wr = w2) (fun x _ => 1025 - (intOf x).toNat)
        case atStart => exact ⟨0, 1, Lib.hid rfl, by omega, by omega, by omega, rfl, Lib.hid (fun t ht => absurd ht (Nat.not_lt_zero _)), rfl⟩
        case round =>
          obtain ⟨j, X, hX, hj, hX2, hX1, rfl, hno, rfl⟩ := hrel
          by_cases h1 : (X : Int) < n
          · by_cases h2 : X < 1024
            · have x2 : (X : Int) < 1024 := by omega
              have hj2 : j < 10 := by
                rcases Nat.lt_or_ge j 10 with h | h
                · exact h
                · obtain rfl : j = 10 := by omega
                  have := hX.out
                  omega
              have hno2 : Hid (∀ t, t < j + 1 → ((2 ^ t : Nat) : Int) < n) := Lib.hid (fun t ht => by
                by_cases e : t = j
                · subst e; rw [← hX.out]; exact h1
                · exact hno.out t (by omega))
              go_wp2
              exact ⟨⟨j + 1, X * 2, Lib.hid (by have := hX.out; rw [Nat.pow_succ]; omega), by omega, by have := two_le (j := j + 1) (by omega); have := hX.out; rw [Nat.pow_succ] at *; omega, by omega, by go_num, hno2, trivial⟩, by simp [intOf]; omega⟩
            · obtain rfl : X = 1024 := by omega
              have hj10 : j = 10 := two_inj (b := 10) (by have := hX.out; omega)
              go_wp2
              go_meet
              exact ⟨j, 1024, hX.out, ⟨hj, hno.out, .inr hj10⟩, by omega, rfl, rfl⟩
          · have x2 : ¬ ((X : Int) < n) := h1
            go_wp2
            go_meet
            exact ⟨j, X, hX.out, ⟨hj, hno.out, .inl (by rw [← hX.out]; omega)⟩, by omega, rfl, rfl⟩
      case rest =>
        obtain ⟨j, X, hX, hnx, hX2, rfl, rfl⟩ := hcut
        have hnn : Hid (∀ w, Calls Tryd.prog 18 #[.int .i64 n] w fun e w' => e = .returned (.int .i64 (X : Int)) ∧ Below w.heap.size w w') := Lib.hid (fun w => (nnext_any n w).mono (by
          rintro e w' ⟨j', X', rfl, hnx', rfl, hb⟩
          rw [next_uniq hnx' hnx, ← hX]
          exact ⟨rfl, hb⟩))
        replace hnx := Lib.hid hnx
        replace hX := Lib.hid hX
        go_wp2_with fail
        refine call_then (hpt.out _) ?_
        intro w3 hb2
        replace hb := below_next hb hb.size hb2
        clear hb2
        go_wp2_with fail
        refine call_then (hnn.out _) ?_
        intro w3 hb2
        replace hb := below_next hb hb.size hb2
        clear hb2
        go_wp2_with fail
        refine call_then (hvl.out _) ?_
        intro w3 hb2
        replace hb := below_next hb hb.size hb2
        clear hb2
        go_wp2_with fail
        refine call_then (hcf.out _) ?_
        intro w3 hb2
        replace hb := below_next hb hb.size hb2
        clear hb2
        go_wp2_with fail
        refine call_then (hlN.out _) ?_
        intro w3 hb2
        replace hb := below_next hb hb.size hb2
        clear hb2
        go_wp2
        go_ret
        exact ⟨rfl, hb⟩
set_option maxRecDepth 20000 in
set_option maxHeartbeats 4000000 in
theorem sizes_bo_one (n k : Int) (hk : k < 0 ∨ 10 < k) (cs : List Int) (hcs : ElemsOK cs) (A : Option Addr) (N c m : Nat) (hN : N ≤ 70) (hm : m ≤ 10) (hNm : N = 2 ^ m) (hl : cs.length = N) (w : World) (hT : Tabs w) (hA : ElemsAt w A cs) : Calls Tryd.prog 5 #[.int .i64 n, .int .i64 k, .int .u8 1, .slice A N c] w fun e w' => e = .returned (.bool true) ∧ Below w.heap.size w w' := by
  obtain ⟨i, ok, want, hrl, hnl, hll⟩ := logs n
  replace hnl := Lib.hid hnl
  replace hll := Lib.hid hll
  have hN70 : (N : Int) ≤ 70 := by omega
  have hpt := Lib.hid (npoints_range ft_one k hk)
  have hvl := Lib.hid (fun w hT hA => values_any ft_one m hm cs N c hNm hl hcs A w hT hA)
  have hcf := Lib.hid (fun w hT hA => coefs_any ft_one m hm cs N c hNm hl hcs A w hT hA)
  have hlN : Hid (∀ w, Calls Tryd.prog 11 #[.int .i64 (N : Int)] w fun e w' => e = .returned (.int .i64 (m : Int)) ∧ Below w.heap.size w w') := Lib.hid (fun w => (llog_all _ w).mono (by
    rintro e w' ⟨⟨k', hk', he, rfl⟩ | ⟨hno, rfl⟩, hb⟩
    · obtain rfl : k' = m := two_inj (by omega)
      exact ⟨rfl, hb⟩
    · exact absurd (by omega) (hno m hm)))
  have m0 : (0 : Int) ≤ (m : Int) := by omega
  have m1 : ¬ ((m : Int) < 0) := by omega
  unfold COut VOut at hcf
  unfold VOut at hvl
  clear hcs hl hNm
  rcases hk with hk | hk
  · rcases hrl with ⟨rfl, rfl, h0, h1⟩ | ⟨rfl, rfl, rfl⟩
    · go_enter Tryd.func5, Tryd.ntmps5
      go_wp2_with fail
      refine call_then (nawake _ hT) ?_
      intro w1 hb
      go_wp2_with fail
      refine call_then (hnl.out _ (hT.up hb)) ?_
      intro w2 hb2
      replace hb := below_next hb hb.size hb2
      clear hb2
      go_wp2_with fail
      refine call_then (hll.out _) ?_
      intro w2 hb2
      replace hb := below_next hb hb.size hb2
      clear hb2 hnl hll
      go_upto_block 0 with (fail)
      go_cut [12] (fun x w' => ∃ j X : Nat, X = 2 ^ j ∧ NextIs n j ∧ X ≤ 1024 ∧ x = .int .i64 (X : Int) ∧ w' = w2)
      case first =>
        go_wp2
        go_loopw [12] (fun x wr => ∃ j X : Nat, Hid (X = 2 ^ j) ∧ j ≤ 10 ∧ X ≤ 1024 ∧ 1 ≤ X ∧ x = .int .i64 (X : Int) ∧ Hid (∀ t, t < j → ((2 ^ t : Nat) : Int) < n) ∧ wr = w2) (fun x _ => 1025 - (intOf x).toNat)
        case atStart => exact ⟨0, 1, Lib.hid rfl, by omega, by omega, by omega, rfl, Lib.hid (fun t ht => absurd ht (Nat.not_lt_zero _)), rfl⟩
        case round =>
          obtain ⟨j, X, hX, hj, hX2, hX1, rfl, hno, rfl⟩ := hrel
          by_cases h1 : (X : Int) < n
          · by_cases h2 : X < 1024
            · have x2 : (X : Int) < 1024 := by omega
              have hj2 : j < 10 := by
                rcases Nat.lt_or_ge j 10 with h | h
                · exact h
                · obtain rfl : j = 10 := by omega
                  have := hX.out
                  omega
              have hno2 : Hid (∀ t, t < j + 1 → ((2 ^ t : Nat) : Int) < n) := Lib.hid (fun t ht => by
                by_cases e : t = j
                · subst e; rw [← hX.out]; exact h1
                · exact hno.out t (by omega))
              go_wp2
              exact ⟨⟨j + 1, X * 2, Lib.hid (by have := hX.out; rw [Nat.pow_succ]; omega), by omega, by have := two_le (j := j + 1) (by omega); have := hX.out; rw [Nat.pow_succ] at *; omega, by omega, by go_num, hno2, trivial⟩, by simp [intOf]; omega⟩
            · obtain rfl : X = 1024 := by omega
              have hj10 : j = 10 := two_inj (b := 10) (by have := hX.out; omega)
              go_wp2
              go_meet
              exact ⟨j, 1024, hX.out, ⟨hj, hno.out, .inr hj10⟩, by omega, rfl, rfl⟩
          · have x2 : ¬ ((X : Int) < n) := h1
            go_wp2
            go_meet
            exact ⟨j, X, hX.out, ⟨hj, hno.out, .inl (by rw [← hX.out]; omega)⟩, by omega, rfl, rfl⟩
      case rest =>
        obtain ⟨j, X, hX, hnx, hX2, rfl, rfl⟩ := hcut
        have hnn : Hid (∀ w, Calls Tryd.prog 18 #[.int .i64 n] w fun e w' => e = .returned (.int .i64 (X : Int)) ∧ Below w.heap.size w w') := Lib.hid (fun w => (nnext_any n w).mono (by
          rintro e w' ⟨j', X', rfl, hnx', rfl, hb⟩
          rw [next_uniq hnx' hnx, ← hX]
          exact ⟨rfl, hb⟩))
        replace hnx := Lib.hid hnx
        replace hX := Lib.hid hX
        go_wp2_with fail
        refine call_then (hpt.out _) ?_
        intro w3 hb2
        replace hb := below_next hb hb.size hb2
        clear hb2
        go_wp2_with fail
        refine call_then (hnn.out _) ?_
        intro w3 hb2
        replace hb := below_next hb hb.size hb2
        clear hb2
        go_wp2_with fail
        refine (hvl.out _ (hT.up hb) (hA.up hb)).mono ?_
        rintro e w3 ⟨g2, rfl, hb2, hg, hrow⟩
        replace hb := below_next hb hb.size hb2
        clear hb2 hrow hg
        go_wp2_with fail
        refine (hcf.out _ (hT.up hb) (hA.up hb)).mono ?_
        rintro e w3 ⟨pt, _, _, _, g3, rfl, hb2, hg, hrow⟩
        replace hb := below_next hb hb.size hb2
        clear hb2 hrow hg
        go_wp2_with fail
        refine call_then (hlN.out _) ?_
        intro w3 hb2
        replace hb := below_next hb hb.size hb2
        clear hb2
        go_wp2
        go_ret
        exact ⟨rfl, hb⟩
    · go_enter Tryd.func5, Tryd.ntmps5
      go_wp2_with fail
      refine call_then (nawake _ hT) ?_
      intro w1 hb
      go_wp2_with fail
      refine call_then (hnl.out _ (hT.up hb)) ?_
      intro w2 hb2
      replace hb := below_next hb hb.size hb2
      clear hb2
      go_wp2_with fail
      refine call_then (hll.out _) ?_
      intro w2 hb2
      replace hb := below_next hb hb.size hb2
      clear hb2 hnl hll
      go_upto_block 0 with (fail)
      go_cut [12] (fun x w' => ∃ j X : Nat, X = 2 ^ j ∧ NextIs n j ∧ X ≤ 1024 ∧ x = .int .i64 (X : Int) ∧ w' = w2)
      case first =>
        go_wp2
        go_loopw [12] (fun x wr => ∃ j X : Nat, Hid (X = 2 ^ j) ∧ j ≤ 10 ∧ X ≤ 1024 ∧ 1 ≤ X ∧ x = .int .i64 (X : Int) ∧ Hid (∀ t, t < j → ((2 ^ t : Nat) : Int) < n) ∧ wr = w2) (fun x _ => 1025 - (intOf x).toNat)
        case atStart => exact ⟨0, 1, Lib.hid rfl, by omega, by omega, by omega, rfl, Lib.hid (fun t ht => absurd ht (Nat.not_lt_zero _)), rfl⟩
        case round =>
          obtain ⟨j, X, hX, hj, hX2, hX1, rfl, hno, rfl⟩ := hrel
          by_cases h1 : (X : Int) < n
          · by_cases h2 : X < 1024
            · have x2 : (X : Int) < 1024 := by omega
              have hj2 : j < 10 := by
                rcases Nat.lt_or_ge j 10 with h | h
                · exact h
                · obtain rfl : j = 10 := by omega
                  have := hX.out
                  omega
              have hno2 : Hid (∀ t, t < j + 1 → ((2 ^ t : Nat) : Int) < n) := Lib.hid (fun t ht => by
                by_cases e : t = j
                · subst e; rw [← hX.out]; exact h1
                · exact hno.out t (by omega))
              go_wp2
              exact ⟨⟨j + 1, X * 2, Lib.hid (by have := hX.out; rw [Nat.pow_succ]; omega), by omega, by have := two_le (j := j + 1) (by omega); have := hX.out; rw [Nat.pow_succ] at *; omega, by omega, by go_num, hno2, trivial⟩, by simp [intOf]; omega⟩
            · obtain rfl : X = 1024 := by omega
              have hj10 : j = 10 := two_inj (b := 10) (by have := hX.out; omega)
              go_wp2
              go_meet
              exact ⟨j, 1024, hX.out, ⟨hj, hno.out, .inr hj10⟩, by omega, rfl, rfl⟩
          · have x2 : ¬ ((X : Int) < n) := h1
            go_wp2
            go_meet
            exact ⟨j, X, hX.out, ⟨hj, hno.out, .inl (by rw [← hX.out]; omega)⟩, by omega, rfl, rfl⟩
      case rest =>
        obtain ⟨j, X, hX, hnx, hX2, rfl, rfl⟩ := hcut
        have hnn : Hid (∀ w, Calls Tryd.prog 18 #[.int .i64 n] w fun e w' => e = .returned (.int .i64 (X : Int)) ∧ Below w.heap.size w w') := Lib.hid (fun w => (nnext_any n w).mono (by
          rintro e w' ⟨j', X', rfl, hnx', rfl, hb⟩
          rw [next_uniq hnx' hnx, ← hX]
          exact ⟨rfl, hb⟩))
        replace hnx := Lib.hid hnx
        replace hX := Lib.hid hX
        go_wp2_with fail
        refine call_then (hpt.out _) ?_
        intro w3 hb2
        replace hb := below_next hb hb.size hb2
        clear hb2
        go_wp2_with fail
        refine call_then (hnn.out _) ?_
        intro w3 hb2
        replace hb := below_next hb hb.size hb2
        clear hb2
        go_wp2_with fail
        refine (hvl.out _ (hT.up hb) (hA.up hb)).mono ?_
        rintro e w3 ⟨g2, rfl, hb2, hg, hrow⟩
        replace hb := below_next hb hb.size hb2
        clear hb2 hrow hg
        go_wp2_with fail
        refine (hcf.out _ (hT.up hb) (hA.up hb)).mono ?_
        rintro e w3 ⟨pt, _, _, _, g3, rfl, hb2, hg, hrow⟩
        replace hb := below_next hb hb.size hb2
        clear hb2 hrow hg
        go_wp2_with fail
        refine call_then (hlN.out _) ?_
        intro w3 hb2
        replace hb := below_next hb hb.size hb2
        clear hb2
        go_wp2
        go_ret
        exact ⟨rfl, hb⟩
  · rcases hrl with ⟨rfl, rfl, h0, h1⟩ | ⟨rfl, rfl, rfl⟩
    · go_enter Tryd.func5, Tryd.ntmps5
      go_wp2_with fail
      refine call_then (nawake _ hT) ?_
      intro w1 hb
      go_wp2_with fail
      refine call_then (hnl.out _ (hT.up hb)) ?_
      intro w2 hb2
      replace hb := below_next hb hb.size hb2
      clear hb2
      go_wp2_with fail
      refine call_then (hll.out _) ?_
      intro w2 hb2
      replace hb := below_next hb hb.size hb2
      clear hb2 hnl hll
      go_upto_block 0 with (fail)
      go_cut [12] (fun x w' => ∃ j X : Nat, X = 2 ^ j ∧ NextIs n j ∧ X ≤ 1024 ∧ x = .int .i64 (X : Int) ∧ w' = w2)
      case first =>
        go_wp2
        go_loopw [12] (fun x wr => ∃ j X : Nat, Hid (X = 2 ^ j) ∧ j ≤ 10 ∧ X ≤ 1024 ∧ 1 ≤ X ∧ x = .int .i64 (X : Int) ∧ Hid (∀ t, t < j → ((2 ^ t : Nat) : Int) < n) ∧ wr = w2) (fun x _ => 1025 - (intOf x).toNat)
        case atStart => exact ⟨0, 1, Lib.hid rfl, by omega, by omega, by omega, rfl, Lib.hid (fun t ht => absurd ht (Nat.not_lt_zero _)), rfl⟩
        case round =>
          obtain ⟨j, X, hX, hj, hX2, hX1, rfl, hno, rfl⟩ := hrel
          by_cases h1 : (X : Int) < n
          · by_cases h2 : X < 1024
            · have x2 : (X : Int) < 1024 := by omega
              have hj2 : j < 10 := by
                rcases Nat.lt_or_ge j 10 with h | h
                · exact h
                · obtain rfl : j = 10 := by omega
                  have := hX.out
                  omega
              have hno2 : Hid (∀ t, t < j + 1 → ((2 ^ t : Nat) : Int) < n) := Lib.hid (fun t ht => by
                by_cases e : t = j
                · subst e; rw [← hX.out]; exact h1
                · exact hno.out t (by omega))
              go_wp2
              exact ⟨⟨j + 1, X * 2, Lib.hid (by have := hX.out; rw [Nat.pow_succ]; omega), by omega, by have := two_le (j := j + 1) (by omega); have := hX.out; rw [Nat.pow_succ] at *; omega, by omega, by go_num, hno2, trivial⟩, by simp [intOf]; omega⟩
            · obtain rfl : X = 1024 := by omega
              have hj10 : j = 10 := two_inj (b := 10) (by have := hX.out; omega)
              go_wp2
              go_meet
              exact ⟨j, 1024, hX.out, ⟨hj, hno.out, .inr hj10⟩, by omega, rfl, rfl⟩
          · have x2 : ¬ ((X : Int) < n) := h1
            go_wp2
            go_meet
            exact ⟨j, X, hX.out, ⟨hj, hno.out, .inl (by rw [← hX.out]; omega)⟩, by omega, rfl, rfl⟩
      case rest =>
        obtain ⟨j, X, hX, hnx, hX2, rfl, rfl⟩ := hcut
        have hnn : Hid (∀ w, Calls Tryd.prog 18 #[.int .i64 n] w fun e w' => e = .returned (.int .i64 (X : Int)) ∧ Below w.heap.size w w') := Lib.hid (fun w => (nnext_any n w).mono (by
          rintro e w' ⟨j', X', rfl, hnx', rfl, hb⟩
          rw [next_uniq hnx' hnx, ← hX]
          exact ⟨rfl, hb⟩))
        replace hnx := Lib.hid hnx
        replace hX := Lib.hid hX
        go_wp2_with fail
        refine call_then (hpt.out _) ?_
        intro w3 hb2
        replace hb := below_next hb hb.size hb2
        clear hb2
        go_wp2_with fail
        refine call_then (hnn.out _) ?_
        intro w3 hb2
        replace hb := below_next hb hb.size hb2
        clear hb2
        go_wp2_with fail
        refine (hvl.out _ (hT.up hb) (hA.up hb)).mono ?_
        rintro e w3 ⟨g2, rfl, hb2, hg, hrow⟩
        replace hb := below_next hb hb.size hb2
        clear hb2 hrow hg
        go_wp2_with fail
        refine (hcf.out _ (hT.up hb) (hA.up hb)).mono ?_
        rintro e w3 ⟨pt, _, _, _, g3, rfl, hb2, hg, hrow⟩
        replace hb := below_next hb hb.size hb2
        clear hb2 hrow hg
        go_wp2_with fail
        refine call_then (hlN.out _) ?_
        intro w3 hb2
        replace hb := below_next hb hb.size hb2
        clear hb2
        go_wp2
        go_ret
        exact ⟨rfl, hb⟩
    · go_enter Tryd.func5, Tryd.ntmps5
      go_wp2_with fail
      refine call_then (nawake _ hT) ?_
      intro w1 hb
      go_wp2_with fail
      refine call_then (hnl.out _ (hT.up hb)) ?_
      intro w2 hb2
      replace hb := below_next hb hb.size hb2
      clear hb2
      go_wp2_with fail
      refine call_then (hll.out _) ?_
      intro w2 hb2
      replace hb := below_next hb hb.size hb2
      clear hb2 hnl hll
      go_upto_block 0 with (fail)
      go_cut [12] (fun x w' => ∃ j X : Nat, X = 2 ^ j ∧ NextIs n j ∧ X ≤ 1024 ∧ x = .int .i64 (X : Int) ∧ w' = w2)
      case first =>
        go_wp2
        go_loopw [12] (fun x wr => ∃ j X : Nat, Hid (X = 2 ^ j) ∧ j ≤ 10 ∧ X ≤ 1024 ∧ 1 ≤ X ∧ x = .int .i64 (X : Int) ∧ Hid (∀ t, t < j → ((2 ^ t : Nat) : Int) < n) ∧ wr = w2) (fun x _ => 1025 - (intOf x).toNat)
        case atStart => exact ⟨0, 1, Lib.hid rfl, by omega, by omega, by omega, rfl, Lib.hid (fun t ht => absurd ht (Nat.not_lt_zero _)), rfl⟩
        case round =>
          obtain ⟨j, X, hX, hj, hX2, hX1, rfl, hno, rfl⟩ := hrel
          by_cases h1 : (X : Int) < n
          · by_cases h2 : X < 1024
            · have x2 : (X : Int) < 1024 := by omega
              have hj2 : j < 10 := by
                rcases Nat.lt_or_ge j 10 with h | h
                · exact h
                · obtain rfl : j = 10 := by omega
                  have := hX.out
                  omega
              have hno2 : Hid (∀ t, t < j + 1 → ((2 ^ t : Nat) : Int) < n) := Lib.hid (fun t ht => by
                by_cases e : t = j
                · subst e; rw [← hX.out]; exact h1
                · exact hno.out t (by omega))
              go_wp2
              exact ⟨⟨j + 1, X * 2, Lib.hid (by have := hX.out; rw [Nat.pow_succ]; omega), by omega, by have := two_le (j := j + 1) (by omega); have := hX.out; rw [Nat.pow_succ] at *; omega, by omega, by go_num, hno2, trivial⟩, by simp [intOf]; omega⟩
            · obtain rfl : X = 1024 := by omega
              have hj10 : j = 10 := two_inj (b := 10) (by have := hX.out; omega)
              go_wp2
              go_meet
              exact ⟨j, 1024, hX.out, ⟨hj, hno.out, .inr hj10⟩, by omega, rfl, rfl⟩
          · have x2 : ¬ ((X : Int) < n) := h1
            go_wp2
            go_meet
            exact ⟨j, X, hX.out, ⟨hj, hno.out, .inl (by rw [← hX.out]; omega)⟩, by omega, rfl, rfl⟩
      case rest =>
        obtain ⟨j, X, hX, hnx, hX2, rfl, rfl⟩ := hcut
        have hnn : Hid (∀ w, Calls Tryd.prog 18 #[.int .i64 n] w fun e w' => e = .returned (.int .i64 (X : Int)) ∧ Below w.heap.size w w') := Lib.hid (fun w => (nnext_any n w).mono (by
          rintro e w' ⟨j', X', rfl, hnx', rfl, hb⟩
          rw [next_uniq hnx' hnx, ← hX]
          exact ⟨rfl, hb⟩))
        replace hnx := Lib.hid hnx
        replace hX := Lib.hid hX
        go_wp2_with fail
        refine call_then (hpt.out _) ?_
        intro w3 hb2
        replace hb := below_next hb hb.size hb2
        clear hb2
        go_wp2_with fail
        refine call_then (hnn.out _) ?_
        intro w3 hb2
        replace hb := below_next hb hb.size hb2
        clear hb2
        go_wp2_with fail
        refine (hvl.out _ (hT.up hb) (hA.up hb)).mono ?_
        rintro e w3 ⟨g2, rfl, hb2, hg, hrow⟩
        replace hb := below_next hb hb.size hb2
        clear hb2 hrow hg
        go_wp2_with fail
        refine (hcf.out _ (hT.up hb) (hA.up hb)).mono ?_
        rintro e w3 ⟨pt, _, _, _, g3, rfl, hb2, hg, hrow⟩
        replace hb := below_next hb hb.size hb2
        clear hb2 hrow hg
        go_wp2_with fail
        refine call_then (hlN.out _) ?_
        intro w3 hb2
        replace hb := below_next hb hb.size hb2
        clear hb2
        go_wp2
        go_ret
        exact ⟨rfl, hb⟩
set_option maxRecDepth 20000 in
set_option maxHeartbeats 4000000 in
theorem sizes_ob_one (n : Int) (k : Nat) (hk : k ≤ 10) (A : Option Addr) (N c : Nat) (hN : N ≤ 70) (hp : ∀ k, k ≤ 10 → 2 ^ k ≠ N) (w : World) (hT : Tabs w) : Calls Tryd.prog 5 #[.int .i64 n, .int .i64 (k : Int), .int .u8 1, .slice A N c] w fun e w' => e = .returned (.bool true) ∧ Below w.heap.size w w' := by
  obtain ⟨i, ok, want, hrl, hnl, hll⟩ := logs n
  replace hnl := Lib.hid hnl
  replace hll := Lib.hid hll
  have hN70 : (N : Int) ≤ 70 := by omega
  have hpt := Lib.hid (npoints_any ft_one k hk)
  have hvl := Lib.hid (values_size ft_one N c hp A)
  have hcf := Lib.hid (coefs_size ft_one N c hp A)
  have hlN : Hid (∀ w, Calls Tryd.prog 11 #[.int .i64 (N : Int)] w fun e w' => e = .returned (.int .i64 (-1)) ∧ Below w.heap.size w w') := Lib.hid (fun w => (llog_all _ w).mono (by
    rintro e w' ⟨⟨k', hk', he, rfl⟩ | ⟨_, rfl⟩, hb⟩
    · exact absurd (by omega) (hp k' hk')
    · exact ⟨rfl, hb⟩))
  clear hp
  have h2 := two_le hk
  have k0 : (0 : Int) ≤ (k : Int) := by omega
  have k1 : (k : Int) ≤ 10 := by omega
  have hsh : ((1 : Int) * 2 ^ k) = ((2 ^ k : Nat) : Int) := by simp
  unfold PtsOut at hpt
  obtain ⟨Z, hZ⟩ : ∃ Z, Z = 2 ^ k := ⟨_, rfl⟩
  rw [← hZ] at hpt hsh h2
  have hwr : IntKind.i64.wrap ((1 : Int) * 2 ^ k) = (Z : Int) := by rw [hsh]; rw [IntKind.wrap_i64]; omega
  have hwr2 : IntKind.i64.wrap ((2 : Int) ^ k) = (Z : Int) := by rw [← hwr]; simp
  have hwr3 : ((2 : Int) ^ k) = (Z : Int) := by rw [← hsh]; simp
  replace hZ := Lib.hid hZ
  clear hsh
  rcases hrl with ⟨rfl, rfl, h0, h1⟩ | ⟨rfl, rfl, rfl⟩
  · go_enter Tryd.func5, Tryd.ntmps5
    go_wp2_with fail
    refine call_then (nawake _ hT) ?_
    intro w1 hb
    go_wp2_with fail
    refine call_then (hnl.out _ (hT.up hb)) ?_
    intro w2 hb2
    replace hb := below_next hb hb.size hb2
    clear hb2
    go_wp2_with fail
    refine call_then (hll.out _) ?_
    intro w2 hb2
    replace hb := below_next hb hb.size hb2
    clear hb2 hnl hll
    go_upto_block 0 with (fail)
    go_cut [12] (fun x w' => ∃ j X : Nat, X = 2 ^ j ∧ NextIs n j ∧ X ≤ 1024 ∧ x = .int .i64 (X : Int) ∧ w' = w2)
    case first =>
      go_wp2
      go_loopw [12] (fun x wr => ∃ j X : Nat, Hid (X = 2 ^ j) ∧ j ≤ 10 ∧ X ≤ 1024 ∧ 1 ≤ X ∧ x = .int .i64 (X : Int) ∧ Hid (∀ t, t < j → ((2 ^ t : Nat) : Int) < n) ∧ wr = w2) (fun x _ => 1025 - (intOf x).toNat)
      case atStart => exact ⟨0, 1, Lib.hid rfl, by omega, by omega, by omega, rfl, Lib.hid (fun t ht => absurd ht (Nat.not_lt_zero _)), rfl⟩
      case round =>
        obtain ⟨j, X, hX, hj, hX2, hX1, rfl, hno, rfl⟩ := hrel
        by_cases h1 : (X : Int) < n
        · by_cases h2 : X < 1024
          · have x2 : (X : Int) < 1024 := by omega
            have hj2 : j < 10 := by
              rcases Nat.lt_or_ge j 10 with h | h
              · exact h
              · obtain rfl : j = 10 := by omega
                have := hX.out
                omega
            have hno2 : Hid (∀ t, t < j + 1 → ((2 ^ t : Nat) : Int) < n) := Lib.hid (fun t ht => by
              by_cases e : t = j
              · subst e; rw [← hX.out]; exact h1
              · exact hno.out t (by omega))
            go_wp2
            exact ⟨⟨j + 1, X * 2, Lib.hid (by have := hX.out; rw [Nat.pow_succ]; omega), by omega, by have := two_le (j := j + 1) (by omega); have := hX.out; rw [Nat.pow_succ] at *; omega, by omega, by go_num, hno2, trivial⟩, by simp [intOf]; omega⟩
          · obtain rfl : X = 1024 := by omega
            have hj10 : j = 10 := two_inj (b := 10) (by have := hX.out; omega)
            go_wp2
            go_meet
            exact ⟨j, 1024, hX.out, ⟨hj, hno.out, .inr hj10⟩, by omega, rfl, rfl⟩
        · have x2 : ¬ ((X : Int) < n) := h1
          go_wp2
          go_meet
          exact ⟨j, X, hX.out, ⟨hj, hno.out, .inl (by rw [← hX.out]; omega)⟩, by omega, rfl, rfl⟩
    case rest =>
      obtain ⟨j, X, hX, hnx, hX2, rfl, rfl⟩ := hcut
      have hnn : Hid (∀ w, Calls Tryd.prog 18 #[.int .i64 n] w fun e w' => e = .returned (.int .i64 (X : Int)) ∧ Below w.heap.size w w') := Lib.hid (fun w => (nnext_any n w).mono (by
        rintro e w' ⟨j', X', rfl, hnx', rfl, hb⟩
        rw [next_uniq hnx' hnx, ← hX]
        exact ⟨rfl, hb⟩))
      replace hnx := Lib.hid hnx
      replace hX := Lib.hid hX
      go_wp2_with fail
      refine (hpt.out _).mono ?_
      rintro e w3 ⟨g, rfl, hb2, hg, hrow⟩
      replace hb := below_next hb hb.size hb2
      clear hb2 hrow hg
      go_wp2_with fail
      refine call_then (hnn.out _) ?_
      intro w3 hb2
      replace hb := below_next hb hb.size hb2
      clear hb2
      go_wp2_with fail
      refine call_then (hvl.out _) ?_
      intro w3 hb2
      replace hb := below_next hb hb.size hb2
      clear hb2
      go_wp2_with fail
      refine call_then (hcf.out _) ?_
      intro w3 hb2
      replace hb := below_next hb hb.size hb2
      clear hb2
      go_wp2_with fail
      refine call_then (hlN.out _) ?_
      intro w3 hb2
      replace hb := below_next hb hb.size hb2
      clear hb2
      go_wp2
      go_ret
      exact ⟨rfl, hb⟩
  · go_enter Tryd.func5, Tryd.ntmps5
    go_wp2_with fail
    refine call_then (nawake _ hT) ?_
    intro w1 hb
    go_wp2_with fail
    refine call_then (hnl.out _ (hT.up hb)) ?_
    intro w2 hb2
    replace hb := below_next hb hb.size hb2
    clear hb2
    go_wp2_with fail
    refine call_then (hll.out _) ?_
    intro w2 hb2
    replace hb := below_next hb hb.size hb2
    clear hb2 hnl hll
    go_upto_block 0 with (fail)
    go_cut [12] (fun x w' => ∃ j X : Nat, X = 2 ^ j ∧ NextIs n j ∧ X ≤ 1024 ∧ x = .int .i64 (X : Int) ∧ w' = w2)
    case first =>
      go_wp2
      go_loopw [12] (fun x wr => ∃ j X : Nat, Hid (X = 2 ^ j) ∧ j ≤ 10 ∧ X ≤ 1024 ∧ 1 ≤ X ∧ x = .int .i64 (X : Int) ∧ Hid (∀ t, t < j → ((2 ^ t : Nat) : Int) < n) ∧ wr = w2) (fun x _ => 1025 - (intOf x).toNat)
      case atStart => exact ⟨0, 1, Lib.hid rfl, by omega, by omega, by omega, rfl, Lib.hid (fun t ht => absurd ht (Nat.not_lt_zero _)), rfl⟩
      case round =>
        obtain ⟨j, X, hX, hj, hX2, hX1, rfl, hno, rfl⟩ := hrel
        by_cases h1 : (X : Int) < n
        · by_cases h2 : X < 1024
          · have x2 : (X : Int) < 1024 := by omega
            have hj2 : j < 10 := by
              rcases Nat.lt_or_ge j 10 with h | h
              · exact h
              · obtain rfl : j = 10 := by omega
                have := hX.out
                omega
            have hno2 : Hid (∀ t, t < j + 1 → ((2 ^ t : Nat) : Int) < n) := Lib.hid (fun t ht => by
              by_cases e : t = j
              · subst e; rw [← hX.out]; exact h1
              · exact hno.out t (by omega))
            go_wp2
            exact ⟨⟨j + 1, X * 2, Lib.hid (by have := hX.out; rw [Nat.pow_succ]; omega), by omega, by have := two_le (j := j + 1) (by omega); have := hX.out; rw [Nat.pow_succ] at *; omega, by omega, by go_num, hno2, trivial⟩, by simp [intOf]; omega⟩
          · obtain rfl : X = 1024 := by omega
            have hj10 : j = 10 := two_inj (b := 10) (by have := hX.out; omega)
            go_wp2
            go_meet
            exact ⟨j, 1024, hX.out, ⟨hj, hno.out, .inr hj10⟩, by omega, rfl, rfl⟩
        · have x2 : ¬ ((X : Int) < n) := h1
          go_wp2
          go_meet
          exact ⟨j, X, hX.out, ⟨hj, hno.out, .inl (by rw [← hX.out]; omega)⟩, by omega, rfl, rfl⟩
    case rest =>
      obtain ⟨j, X, hX, hnx, hX2, rfl, rfl⟩ := hcut
      have hnn : Hid (∀ w, Calls Tryd.prog 18 #[.int .i64 n] w fun e w' => e = .returned (.int .i64 (X : Int)) ∧ Below w.heap.size w w') := Lib.hid (fun w => (nnext_any n w).mono (by
        rintro e w' ⟨j', X', rfl, hnx', rfl, hb⟩
        rw [next_uniq hnx' hnx, ← hX]
        exact ⟨rfl, hb⟩))
      replace hnx := Lib.hid hnx
      replace hX := Lib.hid hX
      go_wp2_with fail
      refine (hpt.out _).mono ?_
      rintro e w3 ⟨g, rfl, hb2, hg, hrow⟩
      replace hb := below_next hb hb.size hb2
      clear hb2 hrow hg
      go_wp2_with fail
      refine call_then (hnn.out _) ?_
      intro w3 hb2
      replace hb := below_next hb hb.size hb2
      clear hb2
      go_wp2_with fail
      refine call_then (hvl.out _) ?_
      intro w3 hb2
      replace hb := below_next hb hb.size hb2
      clear hb2
      go_wp2_with fail
      refine call_then (hcf.out _) ?_
      intro w3 hb2
      replace hb := below_next hb hb.size hb2
      clear hb2
      go_wp2_with fail
      refine call_then (hlN.out _) ?_
      intro w3 hb2
      replace hb := below_next hb hb.size hb2
      clear hb2
      go_wp2
      go_ret
      exact ⟨rfl, hb⟩
set_option maxRecDepth 20000 in
set_option maxHeartbeats 4000000 in
theorem sizes_oo_one (n : Int) (k : Nat) (hk : k ≤ 10) (cs : List Int) (hcs : ElemsOK cs) (A : Option Addr) (N c m : Nat) (hN : N ≤ 70) (hm : m ≤ 10) (hNm : N = 2 ^ m) (hl : cs.length = N) (w : World) (hT : Tabs w) (hA : ElemsAt w A cs) : Calls Tryd.prog 5 #[.int .i64 n, .int .i64 (k : Int), .int .u8 1, .slice A N c] w fun e w' => e = .returned (.bool true) ∧ Below w.heap.size w w' := by
  obtain ⟨i, ok, want, hrl, hnl, hll⟩ := logs n
  replace hnl := Lib.hid hnl
  replace hll := Lib.hid hll
  have hN70 : (N : Int) ≤ 70 := by omega
  have hpt := Lib.hid (npoints_any ft_one k hk)
  have hvl := Lib.hid (fun w hT hA => values_any ft_one m hm cs N c hNm hl hcs A w hT hA)
  have hcf := Lib.hid (fun w hT hA => coefs_any ft_one m hm cs N c hNm hl hcs A w hT hA)
  have hlN : Hid (∀ w, Calls Tryd.prog 11 #[.int .i64 (N : Int)] w fun e w' => e = .returned (.int .i64 (m : Int)) ∧ Below w.heap.size w w') := Lib.hid (fun w => (llog_all _ w).mono (by
    rintro e w' ⟨⟨k', hk', he, rfl⟩ | ⟨hno, rfl⟩, hb⟩
    · obtain rfl : k' = m := two_inj (by omega)
      exact ⟨rfl, hb⟩
    · exact absurd (by omega) (hno m hm)))
  have m0 : (0 : Int) ≤ (m : Int) := by omega
  have m1 : ¬ ((m : Int) < 0) := by omega
  unfold COut VOut at hcf
  unfold VOut at hvl
  clear hcs hl hNm
  have h2 := two_le hk
  have k0 : (0 : Int) ≤ (k : Int) := by omega
  have k1 : (k : Int) ≤ 10 := by omega
  have hsh : ((1 : Int) * 2 ^ k) = ((2 ^ k : Nat) : Int) := by simp
  unfold PtsOut at hpt
  obtain ⟨Z, hZ⟩ : ∃ Z, Z = 2 ^ k := ⟨_, rfl⟩
  rw [← hZ] at hpt hsh h2
  have hwr : IntKind.i64.wrap ((1 : Int) * 2 ^ k) = (Z : Int) := by rw [hsh]; rw [IntKind.wrap_i64]; omega
  have hwr2 : IntKind.i64.wrap ((2 : Int) ^ k) = (Z : Int) := by rw [← hwr]; simp
  have hwr3 : ((2 : Int) ^ k) = (Z : Int) := by rw [← hsh]; simp
  replace hZ := Lib.hid hZ
  clear hsh
  rcases hrl with ⟨rfl, rfl, h0, h1⟩ | ⟨rfl, rfl, rfl⟩
  · go_enter Tryd.func5, Tryd.ntmps5
    go_wp2_with fail
    refine call_then (nawake _ hT) ?_
    intro w1 hb
    go_wp2_with fail
    refine call_then (hnl.out _ (hT.up hb)) ?_
    intro w2 hb2
    replace hb := below_next hb hb.size hb2
    clear hb2
    go_wp2_with fail
    refine call_then (hll.out _) ?_
    intro w2 hb2
    replace hb := below_next hb hb.size hb2
    clear hb2 hnl hll
    go_upto_block 0 with (fail)
    go_cut [12] (fun x w' => ∃ j X : Nat, X = 2 ^ j ∧ NextIs n j ∧ X ≤ 1024 ∧ x = .int .i64 (X : Int) ∧ w' = w2)
    case first =>
      go_wp2
      go_loopw [12] (fun x wr => ∃ j X : Nat, Hid (X = 2 ^ j) ∧ j ≤ 10 ∧ X ≤ 1024 ∧ 1 ≤ X ∧ x = .int .i64 (X : Int) ∧ Hid (∀ t, t < j → ((2 ^ t : Nat) : Int) < n) ∧ wr = w2) (fun x _ => 1025 - (intOf x).toNat)
      case atStart => exact ⟨0, 1, Lib.hid rfl, by omega, by omega, by omega, rfl, Lib.hid (fun t ht => absurd ht (Nat.not_lt_zero _)), rfl⟩
      case round =>
        obtain ⟨j, X, hX, hj, hX2, hX1, rfl, hno, rfl⟩ := hrel
        by_cases h1 : (X : Int) < n
        · by_cases h2 : X < 1024
          · have x2 : (X : Int) < 1024 := by omega
            have hj2 : j < 10 := by
              rcases Nat.lt_or_ge j 10 with h | h
              · exact h
              · obtain rfl : j = 10 := by omega
                have := hX.out
                omega
            have hno2 : Hid (∀ t, t < j + 1 → ((2 ^ t : Nat) : Int) < n) := Lib.hid (fun t ht => by
              by_cases e : t = j
              · subst e; rw [← hX.out]; exact h1
              · exact hno.out t (by omega))
            go_wp2
            exact ⟨⟨j + 1, X * 2, Lib.hid (by have := hX.out; rw [Nat.pow_succ]; omega), by omega, by have := two_le (j := j + 1) (by omega); have := hX.out; rw [Nat.pow_succ] at *; omega, by omega, by go_num, hno2, trivial⟩, by simp [intOf]; omega⟩
          · obtain rfl : X = 1024 := by omega
            have hj10 : j = 10 := two_inj (b := 10) (by have := hX.out; omega)
            go_wp2
            go_meet
            exact ⟨j, 1024, hX.out, ⟨hj, hno.out, .inr hj10⟩, by omega, rfl, rfl⟩
        · have x2 : ¬ ((X : Int) < n) := h1
          go_wp2
          go_meet
          exact ⟨j, X, hX.out, ⟨hj, hno.out, .inl (by rw [← hX.out]; omega)⟩, by omega, rfl, rfl⟩
    case rest =>
      obtain ⟨j, X, hX, hnx, hX2, rfl, rfl⟩ := hcut
      have hnn : Hid (∀ w, Calls Tryd.prog 18 #[.int .i64 n] w fun e w' => e = .returned (.int .i64 (X : Int)) ∧ Below w.heap.size w w') := Lib.hid (fun w => (nnext_any n w).mono (by
        rintro e w' ⟨j', X', rfl, hnx', rfl, hb⟩
        rw [next_uniq hnx' hnx, ← hX]
        exact ⟨rfl, hb⟩))
      replace hnx := Lib.hid hnx
      replace hX := Lib.hid hX
      go_wp2_with fail
      refine (hpt.out _).mono ?_
      rintro e w3 ⟨g, rfl, hb2, hg, hrow⟩
      replace hb := below_next hb hb.size hb2
      clear hb2 hrow hg
      go_wp2_with fail
      refine call_then (hnn.out _) ?_
      intro w3 hb2
      replace hb := below_next hb hb.size hb2
      clear hb2
      go_wp2_with fail
      refine (hvl.out _ (hT.up hb) (hA.up hb)).mono ?_
      rintro e w3 ⟨g2, rfl, hb2, hg, hrow⟩
      replace hb := below_next hb hb.size hb2
      clear hb2 hrow hg
      go_wp2_with fail
      refine (hcf.out _ (hT.up hb) (hA.up hb)).mono ?_
      rintro e w3 ⟨pt, _, _, _, g3, rfl, hb2, hg, hrow⟩
      replace hb := below_next hb hb.size hb2
      clear hb2 hrow hg
      go_wp2_with fail
      refine call_then (hlN.out _) ?_
      intro w3 hb2
      replace hb := below_next hb hb.size hb2
      clear hb2
      go_wp2
      go_ret
      exact ⟨rfl, hb⟩
  · go_enter Tryd.func5, Tryd.ntmps5
    go_wp2_with fail
    refine call_then (nawake _ hT) ?_
    intro w1 hb
    go_wp2_with fail
    refine call_then (hnl.out _ (hT.up hb)) ?_
    intro w2 hb2
    replace hb := below_next hb hb.size hb2
    clear hb2
    go_wp2_with fail
    refine call_then (hll.out _) ?_
    intro w2 hb2
    replace hb := below_next hb hb.size hb2
    clear hb2 hnl hll
    go_upto_block 0 with (fail)
    go_cut [12] (fun x w' => ∃ j X : Nat, X = 2 ^ j ∧ NextIs n j ∧ X ≤ 1024 ∧ x = .int .i64 (X : Int) ∧ w' = w2)
    case first =>
      go_wp2
      go_loopw [12] (fun x wr => ∃ j X : Nat, Hid (X = 2 ^ j) ∧ j ≤ 10 ∧ X ≤ 1024 ∧ 1 ≤ X ∧ x = .int .i64 (X : Int) ∧ Hid (∀ t, t < j → ((2 ^ t : Nat) : Int) < n) ∧ wr = w2) (fun x _ => 1025 - (intOf x).toNat)
      case atStart => exact ⟨0, 1, Lib.hid rfl, by omega, by omega, by omega, rfl, Lib.hid (fun t ht => absurd ht (Nat.not_lt_zero _)), rfl⟩
      case round =>
        obtain ⟨j, X, hX, hj, hX2, hX1, rfl, hno, rfl⟩ := hrel
        by_cases h1 : (X : Int) < n
        · by_cases h2 : X < 1024
          · have x2 : (X : Int) < 1024 := by omega
            have hj2 : j < 10 := by
              rcases Nat.lt_or_ge j 10 with h | h
              · exact h
              · obtain rfl : j = 10 := by omega
                have := hX.out
                omega
            have hno2 : Hid (∀ t, t < j + 1 → ((2 ^ t : Nat) : Int) < n) := Lib.hid (fun t ht => by
              by_cases e : t = j
              · subst e; rw [← hX.out]; exact h1
              · exact hno.out t (by omega))
            go_wp2
            exact ⟨⟨j + 1, X * 2, Lib.hid (by have := hX.out; rw [Nat.pow_succ]; omega), by omega, by have := two_le (j := j + 1) (by omega); have := hX.out; rw [Nat.pow_succ] at *; omega, by omega, by go_num, hno2, trivial⟩, by simp [intOf]; omega⟩
          · obtain rfl : X = 1024 := by omega
            have hj10 : j = 10 := two_inj (b := 10) (by have := hX.out; omega)
            go_wp2
            go_meet
            exact ⟨j, 1024, hX.out, ⟨hj, hno.out, .inr hj10⟩, by omega, rfl, rfl⟩
        · have x2 : ¬ ((X : Int) < n) := h1
          go_wp2
          go_meet
          exact ⟨j, X, hX.out, ⟨hj, hno.out, .inl (by rw [← hX.out]; omega)⟩, by omega, rfl, rfl⟩
    case rest =>
      obtain ⟨j, X, hX, hnx, hX2, rfl, rfl⟩ := hcut
      have hnn : Hid (∀ w, Calls Tryd.prog 18 #[.int .i64 n] w fun e w' => e = .returned (.int .i64 (X : Int)) ∧ Below w.heap.size w w') := Lib.hid (fun w => (nnext_any n w).mono (by
        rintro e w' ⟨j', X', rfl, hnx', rfl, hb⟩
        rw [next_uniq hnx' hnx, ← hX]
        exact ⟨rfl, hb⟩))
      replace hnx := Lib.hid hnx
      replace hX := Lib.hid hX
      go_wp2_with fail
      refine (hpt.out _).mono ?_
      rintro e w3 ⟨g, rfl, hb2, hg, hrow⟩
      replace hb := below_next hb hb.size hb2
      clear hb2 hrow hg
      go_wp2_with fail
      refine call_then (hnn.out _) ?_
      intro w3 hb2
      replace hb := below_next hb hb.size hb2
      clear hb2
      go_wp2_with fail
      refine (hvl.out _ (hT.up hb) (hA.up hb)).mono ?_
      rintro e w3 ⟨g2, rfl, hb2, hg, hrow⟩
      replace hb := below_next hb hb.size hb2
      clear hb2 hrow hg
      go_wp2_with fail
      refine (hcf.out _ (hT.up hb) (hA.up hb)).mono ?_
      rintro e w3 ⟨pt, _, _, _, g3, rfl, hb2, hg, hrow⟩
      replace hb := below_next hb hb.size hb2
      clear hb2 hrow hg
      go_wp2_with fail
      refine call_then (hlN.out _) ?_
      intro w3 hb2
      replace hb := below_next hb hb.size hb2
      clear hb2
      go_wp2
      go_ret
      exact ⟨rfl, hb⟩
set_option maxRecDepth 20000 in
set_option maxHeartbeats 4000000 in
theorem sizes_bb_two (n k : Int) (hk : k < 0 ∨ 10 < k) (A : Option Addr) (N c : Nat) (hN : N ≤ 70) (hp : ∀ k, k ≤ 10 → 2 ^ k ≠ N) (w : World) (hT : Tabs w) : Calls Tryd.prog 5 #[.int .i64 n, .int .i64 k, .int .u8 2, .slice A N c] w fun e w' => e = .returned (.bool true) ∧ Below w.heap.size w w' := by
  obtain ⟨i, ok, want, hrl, hnl, hll⟩ := logs n
  replace hnl := Lib.hid hnl
  replace hll := Lib.hid hll
  have hN70 : (N : Int) ≤ 70 := by omega
  have hpt := Lib.hid (npoints_range ft_two k hk)
  have hvl := Lib.hid (values_size ft_two N c hp A)
  have hcf := Lib.hid (coefs_size ft_two N c hp A)
  have hlN : Hid (∀ w, Calls Tryd.prog 11 #[.int .i64 (N : Int)] w fun e w' => e = .returned (.int .i64 (-1)) ∧ Below w.heap.size w w') := Lib.hid (fun w => (llog_all _ w).mono (by
    rintro e w' ⟨⟨k', hk', he, rfl⟩ | ⟨_, rfl⟩, hb⟩
    · exact absurd (by omega) (hp k' hk')
    · exact ⟨rfl, hb⟩))
  clear hp
  rcases hk with hk | hk
  · rcases hrl with ⟨rfl, rfl, h0, h1⟩ | ⟨rfl, rfl, rfl⟩
    · go_enter Tryd.func5, Tryd.ntmps5
      go_wp2_with fail
      refine call_then (nawake _ hT) ?_
      intro w1 hb
      go_wp2_with fail
      refine call_then (hnl.out _ (hT.up hb)) ?_
      intro w2 hb2
      replace hb := below_next hb hb.size hb2
      clear hb2
      go_wp2_with fail
      refine call_then (hll.out _) ?_
      intro w2 hb2
      replace hb := below_next hb hb.size hb2
      clear hb2 hnl hll
      go_upto_block 0 with (fail)
      go_cut [12] (fun x w' => ∃ j X : Nat, X = 2 ^ j ∧ NextIs n j ∧ X ≤ 1024 ∧ x = .int .i64 (X : Int) ∧ w' = w2)
      case first =>
        go_wp2
        go_loopw [12] (fun x wr => ∃ j X : Nat, Hid (X = 2 ^ j) ∧ j ≤ 10 ∧ X ≤ 1024 ∧ 1 ≤ X ∧ x = .int .i64 (X : Int) ∧ Hid (∀ t, t < j → ((2 ^ t : Nat) : Int) < n) ∧ wr = w2) (fun x _ => 1025 - (intOf x).toNat)
        case atStart => exact ⟨0, 1, Lib.hid rfl, by omega, by omega, by omega, rfl, Lib.hid (fun t ht => absurd ht (Nat.not_lt_zero _)), rfl⟩
        case round =>
          obtain ⟨j, X, hX, hj, hX2, hX1, rfl, hno, rfl⟩ := hrel
          by_cases h1 : (X : Int) < n
          · by_cases h2 : X < 1024
            · have x2 : (X : Int) < 1024 := by omega
              have hj2 : j < 10 := by
                rcases Nat.lt_or_ge j 10 with h | h
                · exact h
                · obtain rfl : j = 10 := by omega
                  have := hX.out
                  omega
              have hno2 : Hid (∀ t, t < j + 1 → ((2 ^ t : Nat) : Int) < n) := Lib.hid (fun t ht => by
                by_cases e : t = j
                · subst e; rw [← hX.out]; exact h1
                · exact hno.out t (by omega))
              go_wp2
              exact ⟨⟨j + 1, X * 2, Lib.hid (by have := hX.out; rw [Nat.pow_succ]; omega), by omega, by have := two_le (j := j + 1) (by omega); have := hX.out; rw [Nat.pow_succ] at *; omega, by omega, by go_num, hno2, trivial⟩, by simp [intOf]; omega⟩
            · obtain rfl : X = 1024 := by omega
              have hj10 : j = 10 := two_inj (b := 10) (by have := hX.out; omega)
              go_wp2
              go_meet
              exact ⟨j, 1024, hX.out, ⟨hj, hno.out, .inr hj10⟩, by omega, rfl, rfl⟩
          · have x2 : ¬ ((X : Int) < n) := h1
            go_wp2
            go_meet
            exact ⟨j, X, hX.out, ⟨hj, hno.out, .inl (by rw [← hX.out]; omega)⟩, by omega, rfl, rfl⟩
      case rest =>
        obtain ⟨j, X, hX, hnx, hX2, rfl, rfl⟩ := hcut
        have hnn : Hid (∀ w, Calls Tryd.prog 18 #[.int .i64 n] w fun e w' => e = .returned (.int .i64 (X : Int)) ∧ Below w.heap.size w w') := Lib.hid (fun w => (nnext_any n w).mono (by
          rintro e w' ⟨j', X', rfl, hnx', rfl, hb⟩
          rw [next_uniq hnx' hnx, ← hX]
          exact ⟨rfl, hb⟩))
        replace hnx := Lib.hid hnx
        replace hX := Lib.hid hX
        go_wp2_with fail
        refine call_then (hpt.out _) ?_
        intro w3 hb2
        replace hb := below_next hb hb.size hb2
        clear hb2
        go_wp2_with fail
        refine call_then (hnn.out _) ?_
        intro w3 hb2
        replace hb := below_next hb hb.size hb2
        clear hb2
        go_wp2_with fail
        refine call_then (hvl.out _) ?_
        intro w3 hb2
        replace hb := below_next hb hb.size hb2
        clear hb2
        go_wp2_with fail
        refine call_then (hcf.out _) ?_
        intro w3 hb2
        replace hb := below_next hb hb.size hb2
        clear hb2
        go_wp2_with fail
        refine call_then (hlN.out _) ?_
        intro w3 hb2
        replace hb := below_next hb hb.size hb2
        clear hb2
        go_wp2
        go_ret
        exact ⟨rfl, hb⟩
    · go_enter Tryd.func5, Tryd.ntmps5
      go_wp2_with fail
      refine call_then (nawake _ hT) ?_
      intro w1 hb
      go_wp2_with fail
      refine call_then (hnl.out _ (hT.up hb)) ?_
      intro w2 hb2
      replace hb := below_next hb hb.size hb2
      clear hb2
      go_wp2_with fail
      refine call_then (hll.out _) ?_
      intro w2 hb2
      replace hb := below_next hb hb.size hb2
      clear hb2 hnl hll
      go_upto_block 0 with (fail)
      go_cut [12] (fun x w' => ∃ j X : Nat, X = 2 ^ j ∧ NextIs n j ∧ X ≤ 1024 ∧ x = .int .i64 (X : Int) ∧ w' = w2)
      case first =>
        go_wp2
        go_loopw [12] (fun x wr => ∃ j X : Nat, Hid (X = 2 ^ j) ∧ j ≤ 10 ∧ X ≤ 1024 ∧ 1 ≤ X ∧ x = .int .i64 (X : Int) ∧ Hid (∀ t, t < j → ((2 ^ t : Nat) : Int) < n) ∧ wr = w2) (fun x _ => 1025 - (intOf x).toNat)
        case atStart => exact ⟨0, 1, Lib.hid rfl, by omega, by omega, by omega, rfl, Lib.hid (fun t ht => absurd ht (Nat.not_lt_zero _)), rfl⟩
        case round =>
          obtain ⟨j, X, hX, hj, hX2, hX1, rfl, hno, rfl⟩ := hrel
          by_cases h1 : (X : Int) < n
          · by_cases h2 : X < 1024
            · have x2 : (X : Int) < 1024 := by omega
              have hj2 : j < 10 := by
                rcases Nat.lt_or_ge j 10 with h | h
                · exact h
                · obtain rfl : j = 10 := by omega
                  have := hX.out
                  omega
              have hno2 : Hid (∀ t, t < j + 1 → ((2 ^ t : Nat) : Int) < n) := Lib.hid (fun t ht => by
                by_cases e : t = j
                · subst e; rw [← hX.out]; exact h1
                · exact hno.out t (by omega))
              go_wp2
              exact ⟨⟨j + 1, X * 2, Lib.hid (by have := hX.out; rw [Nat.pow_succ]; omega), by omega, by have := two_le (j := j + 1) (by omega); have := hX.out; rw [Nat.pow_succ] at *; omega, by omega, by go_num, hno2, trivial⟩, by simp [intOf]; omega⟩
            · obtain rfl : X = 1024 := by omega
              have hj10 : j = 10 := two_inj (b := 10) (by have := hX.out; omega)
              go_wp2
              go_meet
              exact ⟨j, 1024, hX.out, ⟨hj, hno.out, .inr hj10⟩, by omega, rfl, rfl⟩
          · have x2 : ¬ ((X : Int) < n) := h1
            go_wp2
            go_meet
            exact ⟨j, X, hX.out, ⟨hj, hno.out, .inl (by rw [← hX.out]; omega)⟩, by omega, rfl, rfl⟩
      case rest =>
        obtain ⟨j, X, hX, hnx, hX2, rfl, rfl⟩ := hcut
        have hnn : Hid (∀ w, Calls Tryd.prog 18 #[.int .i64 n] w fun e w' => e = .returned (.int .i64 (X : Int)) ∧ Below w.heap.size w w') := Lib.hid (fun w => (nnext_any n w).mono (by
          rintro e w' ⟨j', X', rfl, hnx', rfl, hb⟩
          rw [next_uniq hnx' hnx, ← hX]
          exact ⟨rfl, hb⟩))
        replace hnx := Lib.hid hnx
        replace hX := Lib.hid hX
        go_wp2_with fail
        refine call_then (hpt.out _) ?_
        intro w3 hb2
        replace hb := below_next hb hb.size hb2
        clear hb2
        go_wp2_with fail
        refine call_then (hnn.out _) ?_
        intro w3 hb2
        replace hb := below_next hb hb.size hb2
        clear hb2
        go_wp2_with fail
        refine call_then (hvl.out _) ?_
        intro w3 hb2
        replace hb := below_next hb hb.size hb2
        clear hb2
        go_wp2_with fail
        refine call_then (hcf.out _) ?_
        intro w3 hb2
        replace hb := below_next hb hb.size hb2
        clear hb2
        go_wp2_with fail
        refine call_then (hlN.out _) ?_
        intro w3 hb2
        replace hb := below_next hb hb.size hb2
        clear hb2
        go_wp2
        go_ret
        exact ⟨rfl, hb⟩
  · rcases hrl with ⟨rfl, rfl, h0, h1⟩ | ⟨rfl, rfl, rfl⟩
    · go_enter Tryd.func5, Tryd.ntmps5
      go_wp2_with fail
      refine call_then (nawake _ hT) ?_
      intro w1 hb
      go_wp2_with fail
      refine call_then (hnl.out _ (hT.up hb)) ?_
      intro w2 hb2
      replace hb := below_next hb hb.size hb2
      clear hb2
      go_wp2_with fail
      refine call_then (hll.out _) ?_
      intro w2 hb2
      replace hb := below_next hb hb.size hb2
      clear hb2 hnl hll
      go_upto_block 0 with (fail)
      go_cut [12] (fun x w' => ∃ j X : Nat, X = 2 ^ j ∧ NextIs n j ∧ X ≤ 1024 ∧ x = .int .i64 (X : Int) ∧ w' = w2)
      case first =>
        go_wp2
        go_loopw [12] (fun x wr => ∃ j X : Nat, Hid (X = 2 ^ j) ∧ j ≤ 10 ∧ X ≤ 1024 ∧ 1 ≤ X ∧ x = .int .i64 (X : Int) ∧ Hid (∀ t, t < j → ((2 ^ t : Nat) : Int) < n) ∧ wr = w2) (fun x _ => 1025 - (intOf x).toNat)
        case atStart => exact ⟨0, 1, Lib.hid rfl, by omega, by omega, by omega, rfl, Lib.hid (fun t ht => absurd ht (Nat.not_lt_zero _)), rfl⟩
        case round =>
          obtain ⟨j, X, hX, hj, hX2, hX1, rfl, hno, rfl⟩ := hrel
          by_cases h1 : (X : Int) < n
          · by_cases h2 : X < 1024
            · have x2 : (X : Int) < 1024 := by omega
              have hj2 : j < 10 := by
                rcases Nat.lt_or_ge j 10 with h | h
                · exact h
                · obtain rfl : j = 10 := by omega
                  have := hX.out
                  omega
              have hno2 : Hid (∀ t, t < j + 1 → ((2 ^ t : Nat) : Int) < n) := Lib.hid (fun t ht => by
                by_cases e : t = j
                · subst e; rw [← hX.out]; exact h1
                · exact hno.out t (by omega))
              go_wp2
              exact ⟨⟨j + 1, X * 2, Lib.hid (by have := hX.out; rw [Nat.pow_succ]; omega), by omega, by have := two_le (j := j + 1) (by omega); have := hX.out; rw [Nat.pow_succ] at *; omega, by omega, by go_num, hno2, trivial⟩, by simp [intOf]; omega⟩
            · obtain rfl : X = 1024 := by omega
              have hj10 : j = 10 := two_inj (b := 10) (by have := hX.out; omega)
              go_wp2
              go_meet
              exact ⟨j, 1024, hX.out, ⟨hj, hno.out, .inr hj10⟩, by omega, rfl, rfl⟩
          · have x2 : ¬ ((X : Int) < n) := h1
            go_wp2
            go_meet
            exact ⟨j, X, hX.out, ⟨hj, hno.out, .inl (by rw [← hX.out]; omega)⟩, by omega, rfl, rfl⟩
      case rest =>
        obtain ⟨j, X, hX, hnx, hX2, rfl, rfl⟩ := hcut
        have hnn : Hid (∀ w, Calls Tryd.prog 18 #[.int .i64 n] w fun e w' => e = .returned (.int .i64 (X : Int)) ∧ Below w.heap.size w w') := Lib.hid (fun w => (nnext_any n w).mono (by
          rintro e w' ⟨j', X', rfl, hnx', rfl, hb⟩
          rw [next_uniq hnx' hnx, ← hX]
          exact ⟨rfl, hb⟩))
        replace hnx := Lib.hid hnx
        replace hX := Lib.hid hX
        go_wp2_with fail
        refine call_then (hpt.out _) ?_
        intro w3 hb2
        replace hb := below_next hb hb.size hb2
        clear hb2
        go_wp2_with fail
        refine call_then (hnn.out _) ?_
        intro w3 hb2
        replace hb := below_next hb hb.size hb2
        clear hb2
        go_wp2_with fail
        refine call_then (hvl.out _) ?_
        intro w3 hb2
        replace hb := below_next hb hb.size hb2
        clear hb2
        go_wp2_with fail
        refine call_then (hcf.out _) ?_
        intro w3 hb2
        replace hb := below_next hb hb.size hb2
        clear hb2
        go_wp2_with fail
        refine call_then (hlN.out _) ?_
        intro w3 hb2
        replace hb := below_next hb hb.size hb2
        clear hb2
        go_wp2
        go_ret
        exact ⟨rfl, hb⟩
    · go_enter Tryd.func5, Tryd.ntmps5
      go_wp2_with fail
      refine call_then (nawake _ hT) ?_
      intro w1 hb
      go_wp2_with fail
      refine call_then (hnl.out _ (hT.up hb)) ?_
      intro w2 hb2
      replace hb := below_next hb hb.size hb2
      clear hb2
      go_wp2_with fail
      refine call_then (hll.out _) ?_
      intro w2 hb2
      replace hb := below_next hb hb.size hb2
      clear hb2 hnl hll
      go_upto_block 0 with (fail)
      go_cut [12] (fun x w' => ∃ j X : Nat, X = 2 ^ j ∧ NextIs n j ∧ X ≤ 1024 ∧ x = .int .i64 (X : Int) ∧ w' = w2)
      case first =>
        go_wp2
        go_loopw [12] (fun x wr => ∃ j X : Nat, Hid (X = 2 ^ j) ∧ j ≤ 10 ∧ X ≤ 1024 ∧ 1 ≤ X ∧ x = .int .i64 (X : Int) ∧ Hid (∀ t, t < j → ((2 ^ t : Nat) : Int) < n) ∧ wr = w2) (fun x _ => 1025 - (intOf x).toNat)
        case atStart => exact ⟨0, 1, Lib.hid rfl, by omega, by omega, by omega, rfl, Lib.hid (fun t ht => absurd ht (Nat.not_lt_zero _)), rfl⟩
        case round =>
          obtain ⟨j, X, hX, hj, hX2, hX1, rfl, hno, rfl⟩ := hrel
          by_cases h1 : (X : Int) < n
          · by_cases h2 : X < 1024
            · have x2 : (X : Int) < 1024 := by omega
              have hj2 : j < 10 := by
                rcases Nat.lt_or_ge j 10 with h | h
                · exact h
                · obtain rfl : j = 10 := by omega
                  have := hX.out
                  omega
              have hno2 : Hid (∀ t, t < j + 1 → ((2 ^ t : Nat) : Int) < n) := Lib.hid (fun t ht => by
                by_cases e : t = j
                · subst e; rw [← hX.out]; exact h1
                · exact hno.out t (by omega))
              go_wp2
              exact ⟨⟨j + 1, X * 2, Lib.hid (by have := hX.out; rw [Nat.pow_succ]; omega), by omega, by have := two_le (j := j + 1) (by omega); have := hX.out; rw [Nat.pow_succ] at *; omega, by omega, by go_num, hno2, trivial⟩, by simp [intOf]; omega⟩
            · obtain rfl : X = 1024 := by omega
              have hj10 : j = 10 := two_inj (b := 10) (by have := hX.out; omega)
              go_wp2
              go_meet
              exact ⟨j, 1024, hX.out, ⟨hj, hno.out, .inr hj10⟩, by omega, rfl, rfl⟩
          · have x2 : ¬ ((X : Int) < n) := h1
            go_wp2
            go_meet
            exact ⟨j, X, hX.out, ⟨hj, hno.out, .inl (by rw [← hX.out]; omega)⟩, by omega, rfl, rfl⟩
      case rest =>
        obtain ⟨j, X, hX, hnx, hX2, rfl, rfl⟩ := hcut
        have hnn : Hid (∀ w, Calls Tryd.prog 18 #[.int .i64 n] w fun e w' => e = .returned (.int .i64 (X : Int)) ∧ Below w.heap.size w w') := Lib.hid (fun w => (nnext_any n w).mono (by
          rintro e w' ⟨j', X', rfl, hnx', rfl, hb⟩
          rw [next_uniq hnx' hnx, ← hX]
          exact ⟨rfl, hb⟩))
        replace hnx := Lib.hid hnx
        replace hX := Lib.hid hX
        go_wp2_with fail
        refine call_then (hpt.out _) ?_
        intro w3 hb2
        replace hb := below_next hb hb.size hb2
        clear hb2
        go_wp2_with fail
        refine call_then (hnn.out _) ?_
        intro w3 hb2
        replace hb := below_next hb hb.size hb2
        clear hb2
        go_wp2_with fail
        refine call_then (hvl.out _) ?_
        intro w3 hb2
        replace hb := below_next hb hb.size hb2
        clear hb2
        go_wp2_with fail
        refine call_then (hcf.out _) ?_
        intro w3 hb2
        replace hb := below_next hb hb.size hb2
        clear hb2
        go_wp2_with fail
        refine call_then (hlN.out _) ?_
        intro w3 hb2
        replace hb := below_next hb hb.size hb2
        clear hb2
        go_wp2
        go_ret
        exact ⟨rfl, hb⟩
set_option maxRecDepth 20000 in
set_option maxHeartbeats 4000000 in
theorem sizes_bo_two (n k : Int) (hk : k < 0 ∨ 10 < k) (cs : List Int) (hcs : ElemsOK cs) (A : Option Addr) (N c m : Nat) (hN : N ≤ 70) (hm : m ≤ 10) (hNm : N = 2 ^ m) (hl : cs.length = N) (w : World) (hT : Tabs w) (hA : ElemsAt w A cs) : Calls Tryd.prog 5 #[.int .i64 n, .int .i64 k, .int .u8 2, .slice A N c] w fun e w' => e = .returned (.bool true) ∧ Below w.heap.size w w' := by
  obtain ⟨i, ok, want, hrl, hnl, hll⟩ := logs n
  replace hnl := Lib.hid hnl
  replace hll := Lib.hid hll
  have hN70 : (N : Int) ≤ 70 := by omega
  have hpt := Lib.hid (npoints_range ft_two k hk)
  have hvl := Lib.hid (fun w hT hA => values_any ft_two m hm cs N c hNm hl hcs A w hT hA)
  have hcf := Lib.hid (fun w hT hA => coefs_any ft_two m hm cs N c hNm hl hcs A w hT hA)
  have hlN : Hid (∀ w, Calls Tryd.prog 11 #[.int .i64 (N : Int)] w fun e w' => e = .returned (.int .i64 (m : Int)) ∧ Below w.heap.size w w') := Lib.hid (fun w => (llog_all _ w).mono (by
    rintro e w' ⟨⟨k', hk', he, rfl⟩ | ⟨hno, rfl⟩, hb⟩
    · obtain rfl : k' = m := two_inj (by omega)
      exact ⟨rfl, hb⟩
    · exact absurd (by omega) (hno m hm)))
  have m0 : (0 : Int) ≤ (m : Int) := by omega
  have m1 : ¬ ((m : Int) < 0) := by omega
  unfold COut VOut at hcf
  unfold VOut at hvl
  clear hcs hl hNm
  rcases hk with hk | hk
  · rcases hrl with ⟨rfl, rfl, h0, h1⟩ | ⟨rfl, rfl, rfl⟩
    · go_enter Tryd.func5, Tryd.ntmps5
      go_wp2_with fail
      refine call_then (nawake _ hT) ?_
      intro w1 hb
      go_wp2_with fail
      refine call_then (hnl.out _ (hT.up hb)) ?_
      intro w2 hb2
      replace hb := below_next hb hb.size hb2
      clear hb2
      go_wp2_with fail
      refine call_then (hll.out _) ?_
      intro w2 hb2
      replace hb := below_next hb hb.size hb2
      clear hb2 hnl hll
      go_upto_block 0 with (fail)
      go_cut [12] (fun x w' => ∃ j X : Nat, X = 2 ^ j ∧ NextIs n j ∧ X ≤ 1024 ∧ x = .int .i64 (X : Int) ∧ w' = w2)
      case first =>
        go_wp2
        go_loopw [12] (fun x wr => ∃ j X : Nat, Hid (X = 2 ^ j) ∧ j ≤ 10 ∧ X ≤ 1024 ∧ 1 ≤ X ∧ x = .int .i64 (X : Int) ∧ Hid (∀ t, t < j → ((2 ^ t : Nat) : Int) < n) ∧ wr = w2) (fun x _ => 1025 - (intOf x).toNat)
        case atStart => exact ⟨0, 1, Lib.hid rfl, by omega, by omega, by omega, rfl, Lib.hid (fun t ht => absurd ht (Nat.not_lt_zero _)), rfl⟩
        case round =>
          obtain ⟨j, X, hX, hj, hX2, hX1, rfl, hno, rfl⟩ := hrel
          by_cases h1 : (X : Int) < n
          · by_cases h2 : X < 1024
            · have x2 : (X : Int) < 1024 := by omega
              have hj2 : j < 10 := by
                rcases Nat.lt_or_ge j 10 with h | h
                · exact h
                · obtain rfl : j = 10 := by omega
                  have := hX.out
                  omega
              have hno2 : Hid (∀ t, t < j + 1 → ((2 ^ t : Nat) : Int) < n) := Lib.hid (fun t ht => by
                by_cases e : t = j
                · subst e; rw [← hX.out]; exact h1
                · exact hno.out t (by omega))
              go_wp2
              exact ⟨⟨j + 1, X * 2, Lib.hid (by have := hX.out; rw [Nat.pow_succ]; omega), by omega, by have := two_le (j := j + 1) (by omega); have := hX.out; rw [Nat.pow_succ] at *; omega, by omega, by go_num, hno2, trivial⟩, by simp [intOf]; omega⟩
            · obtain rfl : X = 1024 := by omega
              have hj10 : j = 10 := two_inj (b := 10) (by have := hX.out; omega)
              go_wp2
              go_meet
              exact ⟨j, 1024, hX.out, ⟨hj, hno.out, .inr hj10⟩, by omega, rfl, rfl⟩
          · have x2 : ¬ ((X : Int) < n) := h1
            go_wp2
            go_meet
            exact ⟨j, X, hX.out, ⟨hj, hno.out, .inl (by rw [← hX.out]; omega)⟩, by omega, rfl, rfl⟩
      case rest =>
        obtain ⟨j, X, hX, hnx, hX2, rfl, rfl⟩ := hcut
        have hnn : Hid (∀ w, Calls Tryd.prog 18 #[.int .i64 n] w fun e w' => e = .returned (.int .i64 (X : Int)) ∧ Below w.heap.size w w') := Lib.hid (fun w => (nnext_any n w).mono (by
          rintro e w' ⟨j', X', rfl, hnx', rfl, hb⟩
          rw [next_uniq hnx' hnx, ← hX]
          exact ⟨rfl, hb⟩))
        replace hnx := Lib.hid hnx
        replace hX := Lib.hid hX
        go_wp2_with fail
        refine call_then (hpt.out _) ?_
        intro w3 hb2
        replace hb := below_next hb hb.size hb2
        clear hb2
        go_wp2_with fail
        refine call_then (hnn.out _) ?_
        intro w3 hb2
        replace hb := below_next hb hb.size hb2
        clear hb2
        go_wp2_with fail
        refine (hvl.out _ (hT.up hb) (hA.up hb)).mono ?_
        rintro e w3 ⟨g2, rfl, hb2, hg, hrow⟩
        replace hb := below_next hb hb.size hb2
        clear hb2 hrow hg
        go_wp2_with fail
        refine (hcf.out _ (hT.up hb) (hA.up hb)).mono ?_
        rintro e w3 ⟨pt, _, _, _, g3, rfl, hb2, hg, hrow⟩
        replace hb := below_next hb hb.size hb2
        clear hb2 hrow hg
        go_wp2_with fail
        refine call_then (hlN.out _) ?_
        intro w3 hb2
        replace hb := below_next hb hb.size hb2
        clear hb2
        go_wp2
        go_ret
        exact ⟨rfl, hb⟩
    · go_enter Tryd.func5, Tryd.ntmps5
      go_wp2_with fail
      refine call_then (nawake _ hT) ?_
      intro w1 hb
      go_wp2_with fail
      refine call_then (hnl.out _ (hT.up hb)) ?_
      intro w2 hb2
      replace hb := below_next hb hb.size hb2
      clear hb2
      go_wp2_with fail
      refine call_then (hll.out _) ?_
      intro w2 hb2
      replace hb := below_next hb hb.size hb2
      clear hb2 hnl hll
      go_upto_block 0 with (fail)
      go_cut [12] (fun x w' => ∃ j X : Nat, X = 2 ^ j ∧ NextIs n j ∧ X ≤ 1024 ∧ x = .int .i64 (X : Int) ∧ w' = w2)
      case first =>
        go_wp2
        go_loopw [12] (fun x wr => ∃ j X : Nat, Hid (X = 2 ^ j) ∧ j ≤ 10 ∧ X ≤ 1024 ∧ 1 ≤ X ∧ x = .int .i64 (X : Int) ∧ Hid (∀ t, t < j → ((2 ^ t : Nat) : Int) < n) ∧ wr = w2) (fun x _ => 1025 - (intOf x).toNat)
        case atStart => exact ⟨0, 1, Lib.hid rfl, by omega, by omega, by omega, rfl, Lib.hid (fun t ht => absurd ht (Nat.not_lt_zero _)), rfl⟩
        case round =>
          obtain ⟨j, X, hX, hj, hX2, hX1, rfl, hno, rfl⟩ := hrel
          by_cases h1 : (X : Int) < n
          · by_cases h2 : X < 1024
            · have x2 : (X : Int) < 1024 := by omega
              have hj2 : j < 10 := by
                rcases Nat.lt_or_ge j 10 with h | h
                · exact h
                · obtain rfl : j = 10 := by omega
                  have := hX.out
                  omega
              have hno2 : Hid (∀ t, t < j + 1 → ((2 ^ t : Nat) : Int) < n) := Lib.hid (fun t ht => by
                by_cases e : t = j
                · subst e; rw [← hX.out]; exact h1
                · exact hno.out t (by omega))
              go_wp2
              exact ⟨⟨j + 1, X * 2, Lib.hid (by have := hX.out; rw [Nat.pow_succ]; omega), by omega, by have := two_le (j := j + 1) (by omega); have := hX.out; rw [Nat.pow_succ] at *; omega, by omega, by go_num, hno2, trivial⟩, by simp [intOf]; omega⟩
            · obtain rfl : X = 1024 := by omega
              have hj10 : j = 10 := two_inj (b := 10) (by have := hX.out; omega)
              go_wp2
              go_meet
              exact ⟨j, 1024, hX.out, ⟨hj, hno.out, .inr hj10⟩, by omega, rfl, rfl⟩
          · have x2 : ¬ ((X : Int) < n) := h1
            go_wp2
            go_meet
            exact ⟨j, X, hX.out, ⟨hj, hno.out, .inl (by rw [← hX.out]; omega)⟩, by omega, rfl, rfl⟩
      case rest =>
        obtain ⟨j, X, hX, hnx, hX2, rfl, rfl⟩ := hcut
        have hnn : Hid (∀ w, Calls Tryd.prog 18 #[.int .i64 n] w fun e w' => e = .returned (.int .i64 (X : Int)) ∧ Below w.heap.size w w') := Lib.hid (fun w => (nnext_any n w).mono (by
          rintro e w' ⟨j', X', rfl, hnx', rfl, hb⟩
          rw [next_uniq hnx' hnx, ← hX]
          exact ⟨rfl, hb⟩))
        replace hnx := Lib.hid hnx
        replace hX := Lib.hid hX
        go_wp2_with fail
        refine call_then (hpt.out _) ?_
        intro w3 hb2
        replace hb := below_next hb hb.size hb2
        clear hb2
        go_wp2_with fail
        refine call_then (hnn.out _) ?_
        intro w3 hb2
        replace hb := below_next hb hb.size hb2
        clear hb2
        go_wp2_with fail
        refine (hvl.out _ (hT.up hb) (hA.up hb)).mono ?_
        rintro e w3 ⟨g2, rfl, hb2, hg, hrow⟩
        replace hb := below_next hb hb.size hb2
        clear hb2 hrow hg
        go_wp2_with fail
        refine (hcf.out _ (hT.up hb) (hA.up hb)).mono ?_
        rintro e w3 ⟨pt, _, _, _, g3, rfl, hb2, hg, hrow⟩
        replace hb := below_next hb hb.size hb2
        clear hb2 hrow hg
        go_wp2_with fail
        refine call_then (hlN.out _) ?_
        intro w3 hb2
        replace hb := below_next hb hb.size hb2
        clear hb2
        go_wp2
        go_ret
        exact ⟨rfl, hb⟩
  · rcases hrl with ⟨rfl, rfl, h0, h1⟩ | ⟨rfl, rfl, rfl⟩
    · go_enter Tryd.func5, Tryd.ntmps5
      go_wp2_with fail
      refine call_then (nawake _ hT) ?_
      intro w1 hb
      go_wp2_with fail
      refine call_then (hnl.out _ (hT.up hb)) ?_
      intro w2 hb2
      replace hb := below_next hb hb.size hb2
      clear hb2
      go_wp2_with fail
      refine call_then (hll.out _) ?_
      intro w2 hb2
      replace hb := below_next hb hb.size hb2
      clear hb2 hnl hll
      go_upto_block 0 with (fail)
      go_cut [12] (fun x w' => ∃ j X : Nat, X = 2 ^ j ∧ NextIs n j ∧ X ≤ 1024 ∧ x = .int .i64 (X : Int) ∧ w' = w2)
      case first =>
        go_wp2
        go_loopw [12] (fun x wr => ∃ j X : Nat, Hid (X = 2 ^ j) ∧ j ≤ 10 ∧ X ≤ 1024 ∧ 1 ≤ X ∧ x = .int .i64 (X : Int) ∧ Hid (∀ t, t < j → ((2 ^ t : Nat) : Int) < n) ∧ wr = w2) (fun x _ => 1025 - (intOf x).toNat)
        case atStart => exact ⟨0, 1, Lib.hid rfl, by omega, by omega, by omega, rfl, Lib.hid (fun t ht => absurd ht (Nat.not_lt_zero _)), rfl⟩
        case round =>
          obtain ⟨j, X, hX, hj, hX2, hX1, rfl, hno, rfl⟩ := hrel
          by_cases h1 : (X : Int) < n
          · by_cases h2 : X < 1024
            · have x2 : (X : Int) < 1024 := by omega
              have hj2 : j < 10 := by
                rcases Nat.lt_or_ge j 10 with h | h
                · exact h
                · obtain rfl : j = 10 := by omega
                  have := hX.out
                  omega
              have hno2 : Hid (∀ t, t < j + 1 → ((2 ^ t : Nat) : Int) < n) := Lib.hid (fun t ht => by
                by_cases e : t = j
                · subst e; rw [← hX.out]; exact h1
                · exact hno.out t (by omega))
              go_wp2
              exact ⟨⟨j + 1, X * 2, Lib.hid (by have := hX.out; rw [Nat.pow_succ]; omega), by omega, by have := two_le (j := j + 1) (by omega); have := hX.out; rw [Nat.pow_succ] at *; omega, by omega, by go_num, hno2, trivial⟩, by simp [intOf]; omega⟩
            · obtain rfl : X = 1024 := by omega
              have hj10 : j = 10 := two_inj (b := 10) (by have := hX.out; omega)
              go_wp2
              go_meet
              exact ⟨j, 1024, hX.out, ⟨hj, hno.out, .inr hj10⟩, by omega, rfl, rfl⟩
          · have x2 : ¬ ((X : Int) < n) := h1
            go_wp2
            go_meet
            exact ⟨j, X, hX.out, ⟨hj, hno.out, .inl (by rw [← hX.out]; omega)⟩, by omega, rfl, rfl⟩
      case rest =>
        obtain ⟨j, X, hX, hnx, hX2, rfl, rfl⟩ := hcut
        have hnn : Hid (∀ w, Calls Tryd.prog 18 #[.int .i64 n] w fun e w' => e = .returned (.int .i64 (X : Int)) ∧ Below w.heap.size w w') := Lib.hid (fun w => (nnext_any n w).mono (by
          rintro e w' ⟨j', X', rfl, hnx', rfl, hb⟩
          rw [next_uniq hnx' hnx, ← hX]
          exact ⟨rfl, hb⟩))
        replace hnx := Lib.hid hnx
        replace hX := Lib.hid hX
        go_wp2_with fail
        refine call_then (hpt.out _) ?_
        intro w3 hb2
        replace hb := below_next hb hb.size hb2
        clear hb2
        go_wp2_with fail
        refine call_then (hnn.out _) ?_
        intro w3 hb2
        replace hb := below_next hb hb.size hb2
        clear hb2
        go_wp2_with fail
        refine (hvl.out _ (hT.up hb) (hA.up hb)).mono ?_
        rintro e w3 ⟨g2, rfl, hb2, hg, hrow⟩
        replace hb := below_next hb hb.size hb2
        clear hb2 hrow hg
        go_wp2_with fail
        refine (hcf.out _ (hT.up hb) (hA.up hb)).mono ?_
        rintro e w3 ⟨pt, _, _, _, g3, rfl, hb2, hg, hrow⟩
        replace hb := below_next hb hb.size hb2
        clear hb2 hrow hg
        go_wp2_with fail
        refine call_then (hlN.out _) ?_
        intro w3 hb2
        replace hb := below_next hb hb.size hb2
        clear hb2
        go_wp2
        go_ret
        exact ⟨rfl, hb⟩
    · go_enter Tryd.func5, Tryd.ntmps5
      go_wp2_with fail
      refine call_then (nawake _ hT) ?_
      intro w1 hb
      go_wp2_with fail
      refine call_then (hnl.out _ (hT.up hb)) ?_
      intro w2 hb2
      replace hb := below_next hb hb.size hb2
      clear hb2
      go_wp2_with fail
      refine call_then (hll.out _) ?_
      intro w2 hb2
      replace hb := below_next hb hb.size hb2
      clear hb2 hnl hll
      go_upto_block 0 with (fail)
      go_cut [12] (fun x w' => ∃ j X : Nat, X = 2 ^ j ∧ NextIs n j ∧ X ≤ 1024 ∧ x = .int .i64 (X : Int) ∧ w' = w2)
      case first =>
        go_wp2
        go_loopw [12] (fun x wr => ∃ j X : Nat, Hid (X = 2 ^ j) ∧ j ≤ 10 ∧ X ≤ 1024 ∧ 1 ≤ X ∧ x = .int .i64 (X : Int) ∧ Hid (∀ t, t < j → ((2 ^ t : Nat) : Int) < n) ∧ wr = w2) (fun x _ => 1025 - (intOf x).toNat)
        case atStart => exact ⟨0, 1, Lib.hid rfl, by omega, by omega, by omega, rfl, Lib.hid (fun t ht => absurd ht (Nat.not_lt_zero _)), rfl⟩
        case round =>
          obtain ⟨j, X, hX, hj, hX2, hX1, rfl, hno, rfl⟩ := hrel
          by_cases h1 : (X : Int) < n
          · by_cases h2 : X < 1024
            · have x2 : (X : Int) < 1024 := by omega
              have hj2 : j < 10 := by
                rcases Nat.lt_or_ge j 10 with h | h
                · exact h
                · obtain rfl : j = 10 := by omega
                  have := hX.out
                  omega
              have hno2 : Hid (∀ t, t < j + 1 → ((2 ^ t : Nat) : Int) < n) := Lib.hid (fun t ht => by
                by_cases e : t = j
                · subst e; rw [← hX.out]; exact h1
                · exact hno.out t (by omega))
              go_wp2
              exact ⟨⟨j + 1, X * 2, Lib.hid (by have := hX.out; rw [Nat.pow_succ]; omega), by omega, by have := two_le (j := j + 1) (by omega); have := hX.out; rw [Nat.pow_succ] at *; omega, by omega, by go_num, hno2, trivial⟩, by simp [intOf]; omega⟩
            · obtain rfl : X = 1024 := by omega
              have hj10 : j = 10 := two_inj (b := 10) (by have := hX.out; omega)
              go_wp2
              go_meet
              exact ⟨j, 1024, hX.out, ⟨hj, hno.out, .inr hj10⟩, by omega, rfl, rfl⟩
          · have x2 : ¬ ((X : Int) < n) := h1
            go_wp2
            go_meet
            exact ⟨j, X, hX.out, ⟨hj, hno.out, .inl (by rw [← hX.out]; omega)⟩, by omega, rfl, rfl⟩
      case rest =>
        obtain ⟨j, X, hX, hnx, hX2, rfl, rfl⟩ := hcut
        have hnn : Hid (∀ w, Calls Tryd.prog 18 #[.int .i64 n] w fun e w' => e = .returned (.int .i64 (X : Int)) ∧ Below w.heap.size w w') := Lib.hid (fun w => (nnext_any n w).mono (by
          rintro e w' ⟨j', X', rfl, hnx', rfl, hb⟩
          rw [next_uniq hnx' hnx, ← hX]
          exact ⟨rfl, hb⟩))
        replace hnx := Lib.hid hnx
        replace hX := Lib.hid hX
        go_wp2_with fail
        refine call_then (hpt.out _) ?_
        intro w3 hb2
        replace hb := below_next hb hb.size hb2
        clear hb2
        go_wp2_with fail
        refine call_then (hnn.out _) ?_
        intro w3 hb2
        replace hb := below_next hb hb.size hb2
        clear hb2
        go_wp2_with fail
        refine (hvl.out _ (hT.up hb) (hA.up hb)).mono ?_
        rintro e w3 ⟨g2, rfl, hb2, hg, hrow⟩
        replace hb := below_next hb hb.size hb2
        clear hb2 hrow hg
        go_wp2_with fail
        refine (hcf.out _ (hT.up hb) (hA.up hb)).mono ?_
        rintro e w3 ⟨pt, _, _, _, g3, rfl, hb2, hg, hrow⟩
        replace hb := below_next hb hb.size hb2
        clear hb2 hrow hg
        go_wp2_with fail
        refine call_then (hlN.out _) ?_
        intro w3 hb2
        replace hb := below_next hb hb.size hb2
        clear hb2
        go_wp2
        go_ret
        exact ⟨rfl, hb⟩
set_option maxRecDepth 20000 in
set_option maxHeartbeats 4000000 in
theorem sizes_ob_two (n : Int) (k : Nat) (hk : k ≤ 10) (A : Option Addr) (N c : Nat) (hN : N ≤ 70) (hp : ∀ k, k ≤ 10 → 2 ^ k ≠ N) (w : World) (hT : Tabs w) : Calls Tryd.prog 5 #[.int .i64 n, .int .i64 (k : Int), .int .u8 2, .slice A N c] w fun e w' => e = .returned (.bool true) ∧ Below w.heap.size w w' := by
  obtain ⟨i, ok, want, hrl, hnl, hll⟩ := logs n
  replace hnl := Lib.hid hnl
  replace hll := Lib.hid hll
  have hN70 : (N : Int) ≤ 70 := by omega
  have hpt := Lib.hid (npoints_any ft_two k hk)
  have hvl := Lib.hid (values_size ft_two N c hp A)
  have hcf := Lib.hid (coefs_size ft_two N c hp A)
  have hlN : Hid (∀ w, Calls Tryd.prog 11 #[.int .i64 (N : Int)] w fun e w' => e = .returned (.int .i64 (-1)) ∧ Below w.heap.size w w') := Lib.hid (fun w => (llog_all _ w).mono (by
    rintro e w' ⟨⟨k', hk', he, rfl⟩ | ⟨_, rfl⟩, hb⟩
    · exact absurd (by omega) (hp k' hk')
    · exact ⟨rfl, hb⟩))
  clear hp
  have h2 := two_le hk
  have k0 : (0 : Int) ≤ (k : Int) := by omega
  have k1 : (k : Int) ≤ 10 := by omega
  have hsh : ((1 : Int) * 2 ^ k) = ((2 ^ k : Nat) : Int) := by simp
  unfold PtsOut at hpt
  obtain ⟨Z, hZ⟩ : ∃ Z, Z = 2 ^ k := ⟨_, rfl⟩
  rw [← hZ] at hpt hsh h2
  have hwr : IntKind.i64.wrap ((1 : Int) * 2 ^ k) = (Z : Int) := by rw [hsh]; rw [IntKind.wrap_i64]; omega
  have hwr2 : IntKind.i64.wrap ((2 : Int) ^ k) = (Z : Int) := by rw [← hwr]; simp
  have hwr3 : ((2 : Int) ^ k) = (Z : Int) := by rw [← hsh]; simp
  replace hZ := Lib.hid hZ
  clear hsh
  rcases hrl with ⟨rfl, rfl, h0, h1⟩ | ⟨rfl, rfl, rfl⟩
  · go_enter Tryd.func5, Tryd.ntmps5
    go_wp2_with fail
    refine call_then (nawake _ hT) ?_
    intro w1 hb
    go_wp2_with fail
    refine call_then (hnl.out _ (hT.up hb)) ?_
    intro w2 hb2
    replace hb := below_next hb hb.size hb2
    clear hb2
    go_wp2_with fail
    refine call_then (hll.out _) ?_
    intro w2 hb2
    replace hb := below_next hb hb.size hb2
    clear hb2 hnl hll
    go_upto_block 0 with (fail)
    go_cut [12] (fun x w' => ∃ j X : Nat, X = 2 ^ j ∧ NextIs n j ∧ X ≤ 1024 ∧ x = .int .i64 (X : Int) ∧ w' = w2)
    case first =>
      go_wp2
      go_loopw [12] (fun x wr => ∃ j X : Nat, Hid (X = 2 ^ j) ∧ j ≤ 10 ∧ X ≤ 1024 ∧ 1 ≤ X ∧ x = .int .i64 (X : Int) ∧ Hid (∀ t, t < j → ((2 ^ t : Nat) : Int) < n) ∧ wr = w2) (fun x _ => 1025 - (intOf x).toNat)
      case atStart => exact ⟨0, 1, Lib.hid rfl, by omega, by omega, by omega, rfl, Lib.hid (fun t ht => absurd ht (Nat.not_lt_zero _)), rfl⟩
      case round =>
        obtain ⟨j, X, hX, hj, hX2, hX1, rfl, hno, rfl⟩ := hrel
        by_cases h1 : (X : Int) < n
        · by_cases h2 : X < 1024
          · have x2 : (X : Int) < 1024 := by omega
            have hj2 : j < 10 := by
              rcases Nat.lt_or_ge j 10 with h | h
              · exact h
              · obtain rfl : j = 10 := by omega
                have := hX.out
                omega
            have hno2 : Hid (∀ t, t < j + 1 → ((2 ^ t : Nat) : Int) < n) := Lib.hid (fun t ht => by
              by_cases e : t = j
              · subst e; rw [← hX.out]; exact h1
              · exact hno.out t (by omega))
            go_wp2
            exact ⟨⟨j + 1, X * 2, Lib.hid (by have := hX.out; rw [Nat.pow_succ]; omega), by omega, by have := two_le (j := j + 1) (by omega); have := hX.out; rw [Nat.pow_succ] at *; omega, by omega, by go_num, hno2, trivial⟩, by simp [intOf]; omega⟩
          · obtain rfl : X = 1024 := by omega
            have hj10 : j = 10 := two_inj (b := 10) (by have := hX.out; omega)
            go_wp2
            go_meet
            exact ⟨j, 1024, hX.out, ⟨hj, hno.out, .inr hj10⟩, by omega, rfl, rfl⟩
        · have x2 : ¬ ((X : Int) < n) := h1
          go_wp2
          go_meet
          exact ⟨j, X, hX.out, ⟨hj, hno.out, .inl (by rw [← hX.out]; omega)⟩, by omega, rfl, rfl⟩
    case rest =>
      obtain ⟨j, X, hX, hnx, hX2, rfl, rfl⟩ := hcut
      have hnn : Hid (∀ w, Calls Tryd.prog 18 #[.int .i64 n] w fun e w' => e = .returned (.int .i64 (X : Int)) ∧ Below w.heap.size w w') := Lib.hid (fun w => (nnext_any n w).mono (by
        rintro e w' ⟨j', X', rfl, hnx', rfl, hb⟩
        rw [next_uniq hnx' hnx, ← hX]
        exact ⟨rfl, hb⟩))
      replace hnx := Lib.hid hnx
      replace hX := Lib.hid hX
      go_wp2_with fail
      refine (hpt.out _).mono ?_
      rintro e w3 ⟨g, rfl, hb2, hg, hrow⟩
      replace hb := below_next hb hb.size hb2
      clear hb2 hrow hg
      go_wp2_with fail
      refine call_then (hnn.out _) ?_
      intro w3 hb2
      replace hb := below_next hb hb.size hb2
      clear hb2
      go_wp2_with fail
      refine call_then (hvl.out _) ?_
      intro w3 hb2
      replace hb := below_next hb hb.size hb2
      clear hb2
      go_wp2_with fail
      refine call_then (hcf.out _) ?_
      intro w3 hb2
      replace hb := below_next hb hb.size hb2
      clear hb2
      go_wp2_with fail
      refine call_then (hlN.out _) ?_
      intro w3 hb2
      replace hb := below_next hb hb.size hb2
      clear hb2
      go_wp2
      go_ret
      exact ⟨rfl, hb⟩
  · go_enter Tryd.func5, Tryd.ntmps5
    go_wp2_with fail
    refine call_then (nawake _ hT) ?_
    intro w1 hb
    go_wp2_with fail
    refine call_then (hnl.out _ (hT.up hb)) ?_
    intro w2 hb2
    replace hb := below_next hb hb.size hb2
    clear hb2
    go_wp2_with fail
    refine call_then (hll.out _) ?_
    intro w2 hb2
    replace hb := below_next hb hb.size hb2
    clear hb2 hnl hll
    go_upto_block 0 with (fail)
    go_cut [12] (fun x w' => ∃ j X : Nat, X = 2 ^ j ∧ NextIs n j ∧ X ≤ 1024 ∧ x = .int .i64 (X : Int) ∧ w' = w2)
    case first =>
      go_wp2
      go_loopw [12] (fun x wr => ∃ j X : Nat, Hid (X = 2 ^ j) ∧ j ≤ 10 ∧ X ≤ 1024 ∧ 1 ≤ X ∧ x = .int .i64 (X : Int) ∧ Hid (∀ t, t < j → ((2 ^ t : Nat) : Int) < n) ∧ wr = w2) (fun x _ => 1025 - (intOf x).toNat)
      case atStart => exact ⟨0, 1, Lib.hid rfl, by omega, by omega, by omega, rfl, Lib.hid (fun t ht => absurd ht (Nat.not_lt_zero _)), rfl⟩
      case round =>
        obtain ⟨j, X, hX, hj, hX2, hX1, rfl, hno, rfl⟩ := hrel
        by_cases h1 : (X : Int) < n
        · by_cases h2 : X < 1024
          · have x2 : (X : Int) < 1024 := by omega
            have hj2 : j < 10 := by
              rcases Nat.lt_or_ge j 10 with h | h
              · exact h
              · obtain rfl : j = 10 := by omega
                have := hX.out
                omega
            have hno2 : Hid (∀ t, t < j + 1 → ((2 ^ t : Nat) : Int) < n) := Lib.hid (fun t ht => by
              by_cases e : t = j
              · subst e; rw [← hX.out]; exact h1
              · exact hno.out t (by omega))
            go_wp2
            exact ⟨⟨j + 1, X * 2, Lib.hid (by have := hX.out; rw [Nat.pow_succ]; omega), by omega, by have := two_le (j := j + 1) (by omega); have := hX.out; rw [Nat.pow_succ] at *; omega, by omega, by go_num, hno2, trivial⟩, by simp [intOf]; omega⟩
          · obtain rfl : X = 1024 := by omega
            have hj10 : j = 10 := two_inj (b := 10) (by have := hX.out; omega)
            go_wp2
            go_meet
            exact ⟨j, 1024, hX.out, ⟨hj, hno.out, .inr hj10⟩, by omega, rfl, rfl⟩
        · have x2 : ¬ ((X : Int) < n) := h1
          go_wp2
          go_meet
          exact ⟨j, X, hX.out, ⟨hj, hno.out, .inl (by rw [← hX.out]; omega)⟩, by omega, rfl, rfl⟩
    case rest =>
      obtain ⟨j, X, hX, hnx, hX2, rfl, rfl⟩ := hcut
      have hnn : Hid (∀ w, Calls Tryd.prog 18 #[.int .i64 n] w fun e w' => e = .returned (.int .i64 (X : Int)) ∧ Below w.heap.size w w') := Lib.hid (fun w => (nnext_any n w).mono (by
        rintro e w' ⟨j', X', rfl, hnx', rfl, hb⟩
        rw [next_uniq hnx' hnx, ← hX]
        exact ⟨rfl, hb⟩))
      replace hnx := Lib.hid hnx
      replace hX := Lib.hid hX
      go_wp2_with fail
      refine (hpt.out _).mono ?_
      rintro e w3 ⟨g, rfl, hb2, hg, hrow⟩
      replace hb := below_next hb hb.size hb2
      clear hb2 hrow hg
      go_wp2_with fail
      refine call_then (hnn.out _) ?_
      intro w3 hb2
      replace hb := below_next hb hb.size hb2
      clear hb2
      go_wp2_with fail
      refine call_then (hvl.out _) ?_
      intro w3 hb2
      replace hb := below_next hb hb.size hb2
      clear hb2
      go_wp2_with fail
      refine call_then (hcf.out _) ?_
      intro w3 hb2
      replace hb := below_next hb hb.size hb2
      clear hb2
      go_wp2_with fail
      refine call_then (hlN.out _) ?_
      intro w3 hb2
      replace hb := below_next hb hb.size hb2
      clear hb2
      go_wp2
      go_ret
      exact ⟨rfl, hb⟩
set_option maxRecDepth 20000 in
set_option maxHeartbeats 4000000 in
theorem sizes_oo_two (n : Int) (k : Nat) (hk : k ≤ 10) (cs : List Int) (hcs : ElemsOK cs) (A : Option Addr) (N c m : Nat) (hN : N ≤ 70) (hm : m ≤ 10) (hNm : N = 2 ^ m) (hl : cs.length = N) (w : World) (hT : Tabs w) (hA : ElemsAt w A cs) : Calls Tryd.prog 5 #[.int .i64 n, .int .i64 (k : Int), .int .u8 2, .slice A N c] w fun e w' => e = .returned (.bool true) ∧ Below w.heap.size w w' := by
  obtain ⟨i, ok, want, hrl, hnl, hll⟩ := logs n
  replace hnl := Lib.hid hnl
  replace hll := Lib.hid hll
  have hN70 : (N : Int) ≤ 70 := by omega
  have hpt := Lib.hid (npoints_any ft_two k hk)
  have hvl := Lib.hid (fun w hT hA => values_any ft_two m hm cs N c hNm hl hcs A w hT hA)
  have hcf := Lib.hid (fun w hT hA => coefs_any ft_two m hm cs N c hNm hl hcs A w hT hA)
  have hlN : Hid (∀ w, Calls Tryd.prog 11 #[.int .i64 (N : Int)] w fun e w' => e = .returned (.int .i64 (m : Int)) ∧ Below w.heap.size w w') := Lib.hid (fun w => (llog_all _ w).mono (by
    rintro e w' ⟨⟨k', hk', he, rfl⟩ | ⟨hno, rfl⟩, hb⟩
    · obtain rfl : k' = m := two_inj (by omega)
      exact ⟨rfl, hb⟩
    · exact absurd (by omega) (hno m hm)))
  have m0 : (0 : Int) ≤ (m : Int) := by omega
  have m1 : ¬ ((m : Int) < 0) := by omega
  unfold COut VOut at hcf
  unfold VOut at hvl
  clear hcs hl hNm
  have h2 := two_le hk
  have k0 : (0 : Int) ≤ (k : Int) := by omega
  have k1 : (k : Int) ≤ 10 := by omega
  have hsh : ((1 : Int) * 2 ^ k) = ((2 ^ k : Nat) : Int) := by simp
  unfold PtsOut at hpt
  obtain ⟨Z, hZ⟩ : ∃ Z, Z = 2 ^ k := ⟨_, rfl⟩
  rw [← hZ] at hpt hsh h2
  have hwr : IntKind.i64.wrap ((1 : Int) * 2 ^ k) = (Z : Int) := by rw [hsh]; rw [IntKind.wrap_i64]; omega
  have hwr2 : IntKind.i64.wrap ((2 : Int) ^ k) = (Z : Int) := by rw [← hwr]; simp
  have hwr3 : ((2 : Int) ^ k) = (Z : Int) := by rw [← hsh]; simp
  replace hZ := Lib.hid hZ
  clear hsh
  rcases hrl with ⟨rfl, rfl, h0, h1⟩ | ⟨rfl, rfl, rfl⟩
  · go_enter Tryd.func5, Tryd.ntmps5
    go_wp2_with fail
    refine call_then (nawake _ hT) ?_
    intro w1 hb
    go_wp2_with fail
    refine call_then (hnl.out _ (hT.up hb)) ?_
    intro w2 hb2
    replace hb := below_next hb hb.size hb2
    clear hb2
    go_wp2_with fail
    refine call_then (hll.out _) ?_
    intro w2 hb2
    replace hb := below_next hb hb.size hb2
    clear hb2 hnl hll
    go_upto_block 0 with (fail)
    go_cut [12] (fun x w' => ∃ j X : Nat, X = 2 ^ j ∧ NextIs n j ∧ X ≤ 1024 ∧ x = .int .i64 (X : Int) ∧ w' = w2)
    case first =>
      go_wp2
      go_loopw [12] (fun x wr => ∃ j X : Nat, Hid (X = 2 ^ j) ∧ j ≤ 10 ∧ X ≤ 1024 ∧ 1 ≤ X ∧ x = .int .i64 (X : Int) ∧ Hid (∀ t, t < j → ((2 ^ t : Nat) : Int) < n) ∧ wr = w2) (fun x _ => 1025 - (intOf x).toNat)
      case atStart => exact ⟨0, 1, Lib.hid rfl, by omega, by omega, by omega, rfl, Lib.hid (fun t ht => absurd ht (Nat.not_lt_zero _)), rfl⟩
      case round =>
        obtain ⟨j, X, hX, hj, hX2, hX1, rfl, hno, rfl⟩ := hrel
        by_cases h1 : (X : Int) < n
        · by_cases h2 : X < 1024
          · have x2 : (X : Int) < 1024 := by omega
            have hj2 : j < 10 := by
              rcases Nat.lt_or_ge j 10 with h | h
              · exact h
              · obtain rfl : j = 10 := by omega
                have := hX.out
                omega
            have hno2 : Hid (∀ t, t < j + 1 → ((2 ^ t : Nat) : Int) < n) := Lib.hid (fun t ht => by
              by_cases e : t = j
              · subst e; rw [← hX.out]; exact h1
              · exact hno.out t (by omega))
            go_wp2
            exact ⟨⟨j + 1, X * 2, Lib.hid (by have := hX.out; rw [Nat.pow_succ]; omega), by omega, by have := two_le (j := j + 1) (by omega); have := hX.out; rw [Nat.pow_succ] at *; omega, by omega, by go_num, hno2, trivial⟩, by simp [intOf]; omega⟩
          · obtain rfl : X = 1024 := by omega
            have hj10 : j = 10 := two_inj (b := 10) (by have := hX.out; omega)
            go_wp2
            go_meet
            exact ⟨j, 1024, hX.out, ⟨hj, hno.out, .inr hj10⟩, by omega, rfl, rfl⟩
        · have x2 : ¬ ((X : Int) < n) := h1
          go_wp2
          go_meet
          exact ⟨j, X, hX.out, ⟨hj, hno.out, .inl (by rw [← hX.out]; omega)⟩, by omega, rfl, rfl⟩
    case rest =>
      obtain ⟨j, X, hX, hnx, hX2, rfl, rfl⟩ := hcut
      have hnn : Hid (∀ w, Calls Tryd.prog 18 #[.int .i64 n] w fun e w' => e = .returned (.int .i64 (X : Int)) ∧ Below w.heap.size w w') := Lib.hid (fun w => (nnext_any n w).mono (by
        rintro e w' ⟨j', X', rfl, hnx', rfl, hb⟩
        rw [next_uniq hnx' hnx, ← hX]
        exact ⟨rfl, hb⟩))
      replace hnx := Lib.hid hnx
      replace hX := Lib.hid hX
      go_wp2_with fail
      refine (hpt.out _).mono ?_
      rintro e w3 ⟨g, rfl, hb2, hg, hrow⟩
      replace hb := below_next hb hb.size hb2
      clear hb2 hrow hg
      go_wp2_with fail
      refine call_then (hnn.out _) ?_
      intro w3 hb2
      replace hb := below_next hb hb.size hb2
      clear hb2
      go_wp2_with fail
      refine (hvl.out _ (hT.up hb) (hA.up hb)).mono ?_
      rintro e w3 ⟨g2, rfl, hb2, hg, hrow⟩
      replace hb := below_next hb hb.size hb2
      clear hb2 hrow hg
      go_wp2_with fail
      refine (hcf.out _ (hT.up hb) (hA.up hb)).mono ?_
      rintro e w3 ⟨pt, _, _, _, g3, rfl, hb2, hg, hrow⟩
      replace hb := below_next hb hb.size hb2
      clear hb2 hrow hg
      go_wp2_with fail
      refine call_then (hlN.out _) ?_
      intro w3 hb2
      replace hb := below_next hb hb.size hb2
      clear hb2
      go_wp2
      go_ret
      exact ⟨rfl, hb⟩
  · go_enter Tryd.func5, Tryd.ntmps5
    go_wp2_with fail
    refine call_then (nawake _ hT) ?_
    intro w1 hb
    go_wp2_with fail
    refine call_then (hnl.out _ (hT.up hb)) ?_
    intro w2 hb2
    replace hb := below_next hb hb.size hb2
    clear hb2
    go_wp2_with fail
    refine call_then (hll.out _) ?_
    intro w2 hb2
    replace hb := below_next hb hb.size hb2
    clear hb2 hnl hll
    go_upto_block 0 with (fail)
    go_cut [12] (fun x w' => ∃ j X : Nat, X = 2 ^ j ∧ NextIs n j ∧ X ≤ 1024 ∧ x = .int .i64 (X : Int) ∧ w' = w2)
    case first =>
      go_wp2
      go_loopw [12] (fun x wr => ∃ j X : Nat, Hid (X = 2 ^ j) ∧ j ≤ 10 ∧ X ≤ 1024 ∧ 1 ≤ X ∧ x = .int .i64 (X : Int) ∧ Hid (∀ t, t < j → ((2 ^ t : Nat) : Int) < n) ∧ wr = w2) (fun x _ => 1025 - (intOf x).toNat)
      case atStart => exact ⟨0, 1, Lib.hid rfl, by omega, by omega, by omega, rfl, Lib.hid (fun t ht => absurd ht (Nat.not_lt_zero _)), rfl⟩
      case round =>
        obtain ⟨j, X, hX, hj, hX2, hX1, rfl, hno, rfl⟩ := hrel
        by_cases h1 : (X : Int) < n
        · by_cases h2 : X < 1024
          · have x2 : (X : Int) < 1024 := by omega
            have hj2 : j < 10 := by
              rcases Nat.lt_or_ge j 10 with h | h
              · exact h
              · obtain rfl : j = 10 := by omega
                have := hX.out
                omega
            have hno2 : Hid (∀ t, t < j + 1 → ((2 ^ t : Nat) : Int) < n) := Lib.hid (fun t ht => by
              by_cases e : t = j
              · subst e; rw [← hX.out]; exact h1
              · exact hno.out t (by omega))
            go_wp2
            exact ⟨⟨j + 1, X * 2, Lib.hid (by have := hX.out; rw [Nat.pow_succ]; omega), by omega, by have := two_le (j := j + 1) (by omega); have := hX.out; rw [Nat.pow_succ] at *; omega, by omega, by go_num, hno2, trivial⟩, by simp [intOf]; omega⟩
          · obtain rfl : X = 1024 := by omega
            have hj10 : j = 10 := two_inj (b := 10) (by have := hX.out; omega)
            go_wp2
            go_meet
            exact ⟨j, 1024, hX.out, ⟨hj, hno.out, .inr hj10⟩, by omega, rfl, rfl⟩
        · have x2 : ¬ ((X : Int) < n) := h1
          go_wp2
          go_meet
          exact ⟨j, X, hX.out, ⟨hj, hno.out, .inl (by rw [← hX.out]; omega)⟩, by omega, rfl, rfl⟩
    case rest =>
      obtain ⟨j, X, hX, hnx, hX2, rfl, rfl⟩ := hcut
      have hnn : Hid (∀ w, Calls Tryd.prog 18 #[.int .i64 n] w fun e w' => e = .returned (.int .i64 (X : Int)) ∧ Below w.heap.size w w') := Lib.hid (fun w => (nnext_any n w).mono (by
        rintro e w' ⟨j', X', rfl, hnx', rfl, hb⟩
        rw [next_uniq hnx' hnx, ← hX]
        exact ⟨rfl, hb⟩))
      replace hnx := Lib.hid hnx
      replace hX := Lib.hid hX
      go_wp2_with fail
      refine (hpt.out _).mono ?_
      rintro e w3 ⟨g, rfl, hb2, hg, hrow⟩
      replace hb := below_next hb hb.size hb2
      clear hb2 hrow hg
      go_wp2_with fail
      refine call_then (hnn.out _) ?_
      intro w3 hb2
      replace hb := below_next hb hb.size hb2
      clear hb2
      go_wp2_with fail
      refine (hvl.out _ (hT.up hb) (hA.up hb)).mono ?_
      rintro e w3 ⟨g2, rfl, hb2, hg, hrow⟩
      replace hb := below_next hb hb.size hb2
      clear hb2 hrow hg
      go_wp2_with fail
      refine (hcf.out _ (hT.up hb) (hA.up hb)).mono ?_
      rintro e w3 ⟨pt, _, _, _, g3, rfl, hb2, hg, hrow⟩
      replace hb := below_next hb hb.size hb2
      clear hb2 hrow hg
      go_wp2_with fail
      refine call_then (hlN.out _) ?_
      intro w3 hb2
      replace hb := below_next hb hb.size hb2
      clear hb2
      go_wp2
      go_ret
      exact ⟨rfl, hb⟩
end Go.Proofs.YtnlnbikiocdpdaaDoor
