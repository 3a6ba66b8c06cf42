/-
  Totals: two as one; a report's share more.
-/
import Derived.Test.YtpojhomccmfffaaDoorTtF
namespace Go.Proofs.YtpojhomccmfffaaDoor
open Go.RowKit Flow F
set_option linter.unusedVariables false
set_option linter.unusedSimpArgs false

/-- May two's numbers of reports be added? -/
def few (m1 m2 : Int) : Bool := !(decide (m1 < 0)) && !(decide (m2 < 0)) && !(decide (m1 > 256)) && !(decide (m2 > 256 - m1))
theorem few_of {m1 m2 : Int} (h : few m1 m2 = true) : 0 ≤ m1 ∧ 0 ≤ m2 ∧ m1 + m2 ≤ 256 := by
  unfold few at h
  simp at h
  omega
set_option maxRecDepth 20000 in
set_option maxHeartbeats 4000000 in
theorem merge_task (x : Ci) (p : Int) (s : ByteArray) (hs : (s.size : Int) ≤ 9223372036854775807) (hbad : tcode x p s ≠ 0) (A B : Option Addr) (n1 n2 cA cB : Nat) (m1 m2 : Int) (c1 c2 : Nat → Nat) (w : World) :
    Calls Tryd.prog 15 #[totv (.slice A n1 cA) m1 c1, tvl x p s, totv (.slice B n2 cB) m2 c2] w fun e w' => e = .returned (.tuple #[.agg noTot.toArray, .int .i64 (tcode x p s)]) ∧ Below w.heap.size w w' := by
  have hC := fun w => tcheck_any x p s hs w
  unfold tvl totv at *
  have h1 : (tcode x p s != 0) = true := by simpa using hbad
  generalize tcode x p s = z at *
  replace hC := Lib.hid hC
  go_enter Tryd.func15, Tryd.ntmps15
  go_upto_region 1 with (fail)
  refine name_wp (fun w1 => Below w.heap.size w w1 ∧ w1.heap.size = w.heap.size + 4 ∧ w1.heap[w.heap.size]? = some (.cells (tot (.slice A n1 cA) m1 c1).toArray 39 (0, 0)) ∧ w1.heap[w.heap.size + 1]? = some (.cells (tcl x p s).toArray 33 (0, 0)) ∧ w1.heap[w.heap.size + 2]? = some (.cells (tot (.slice B n2 cB) m2 c2).toArray 39 (0, 0)) ∧ w1.heap[w.heap.size + 3]? = some (.cells noTot.toArray 39 (0, 0)))
    ⟨((((Below.refl _ _).alloc (Nat.le_refl _) _).alloc (by simp) _).alloc (by simp; omega) _).alloc (by simp; omega) _, by simp, alloc_keeps (alloc_keeps (alloc_keeps (alloc_at rfl))), alloc_keeps (alloc_keeps (alloc_at (by simp))), alloc_keeps (alloc_at (by simp)), alloc_at (by simp)⟩ ?_
  rintro w1 ⟨hb, hsz, k0, k1, k2, k3⟩
  go_wp2_with (first
    | (refine list_load_mid _ _ _ 0 _ _ rfl rfl rfl (At0.of_block k1) Tryd.underlying33 rfl (by kernel_rfl) ?_))
  refine call_then (hC.out _) ?_
  intro w3 hv
  replace hb := below_next hb (by have := hb.size; omega) hv
  replace k0 := keeps hv k0
  replace k1 := keeps hv k1
  replace k2 := keeps hv k2
  replace k3 := keeps hv k3
  clear hv
  clear hC hsz
  clear k0 k1 k2
  have hone := Lib.hid (one_tot (A := none) (n := 0) (cp := 0) 0 (fun _ => 0))
  have hzz := hb.size
  go_wp2_with (first
    | (refine list_store_whole _ _ _ _ noTot noTot 39 rfl rfl rfl rfl k3 rfl (by kernel_rfl) hone.out ?_; intro w7 hbut kr))
  have hbe := hbut.below hb (by omega) hb.size
  have hlv := loadVar_whole (P := Tryd.prog) (ty := 39) _ (At0.of_block kr) Tryd.underlying39 rfl (by kernel_rfl)
  exact bodyPost_ret (v := .tuple #[.agg noTot.toArray, .int .i64 z]) (results_cell_tmpT Tryd.results15 rfl hlv rfl) rfl ⟨rfl, hbe⟩
set_option maxRecDepth 20000 in
set_option maxHeartbeats 4000000 in
theorem merge_full (x : Ci) (p : Int) (s : ByteArray) (h : TGood x p s) (A B : Option Addr) (n1 n2 cA cB : Nat) (m1 m2 : Int) (c1 c2 : Nat → Nat) (hm : few m1 m2 = false) (w : World) :
    Calls Tryd.prog 15 #[totv (.slice A n1 cA) m1 c1, tvl x p s, totv (.slice B n2 cB) m2 c2] w fun e w' => e = .returned (.tuple #[.agg noTot.toArray, .int .i64 18]) ∧ Below w.heap.size w w' := by
  have hC := Lib.hid (fun w => tcheck_good h w)
  unfold tvl totv at *
  clear h
  cases b1 : decide (m1 < 0) with
  | true =>
    clear hm
    go_enter Tryd.func15, Tryd.ntmps15
    go_upto_region 1 with (fail)
    refine name_wp (fun w1 => Below w.heap.size w w1 ∧ w1.heap.size = w.heap.size + 4 ∧ w1.heap[w.heap.size]? = some (.cells (tot (.slice A n1 cA) m1 c1).toArray 39 (0, 0)) ∧ w1.heap[w.heap.size + 1]? = some (.cells (tcl x p s).toArray 33 (0, 0)) ∧ w1.heap[w.heap.size + 2]? = some (.cells (tot (.slice B n2 cB) m2 c2).toArray 39 (0, 0)) ∧ w1.heap[w.heap.size + 3]? = some (.cells noTot.toArray 39 (0, 0)))
      ⟨((((Below.refl _ _).alloc (Nat.le_refl _) _).alloc (by simp) _).alloc (by simp; omega) _).alloc (by simp; omega) _, by simp, alloc_keeps (alloc_keeps (alloc_keeps (alloc_at rfl))), alloc_keeps (alloc_keeps (alloc_at (by simp))), alloc_keeps (alloc_at (by simp)), alloc_at (by simp)⟩ ?_
    rintro w1 ⟨hb, hsz, k0, k1, k2, k3⟩
    go_wp2_with (first
      | (refine list_load_mid _ _ _ 0 _ _ rfl rfl rfl (At0.of_block k1) Tryd.underlying33 rfl (by kernel_rfl) ?_))
    refine call_then (hC.out _) ?_
    intro w3 hv
    replace hb := below_next hb (by have := hb.size; omega) hv
    replace k0 := keeps hv k0
    replace k1 := keeps hv k1
    replace k2 := keeps hv k2
    replace k3 := keeps hv k3
    clear hv
    clear hC hsz
    have q1 := At0.of_block k0 1 (.int .i64 m1) rfl
    have q2 := At0.of_block k2 1 (.int .i64 m2) rfl
    simp only [Nat.zero_add] at q1 q2
    clear k0 k1 k2
    have hone := Lib.hid (one_tot (A := none) (n := 0) (cp := 0) 0 (fun _ => 0))
    have hzz := hb.size
    go_wp2_with (first
      | (refine list_store_whole _ _ _ _ noTot noTot 39 rfl rfl rfl rfl k3 rfl (by kernel_rfl) hone.out ?_; intro w7 hbut kr))
    have hbe := hbut.below hb (by omega) hb.size
    have hlv := loadVar_whole (P := Tryd.prog) (ty := 39) _ (At0.of_block kr) Tryd.underlying39 rfl (by kernel_rfl)
    exact bodyPost_ret (v := .tuple #[.agg noTot.toArray, .int .i64 18]) (results_cell_tmpT Tryd.results15 rfl hlv rfl) rfl ⟨rfl, hbe⟩
  | false =>
    cases b2 : decide (m2 < 0) with
    | true =>
      clear hm
      go_enter Tryd.func15, Tryd.ntmps15
      go_upto_region 1 with (fail)
      refine name_wp (fun w1 => Below w.heap.size w w1 ∧ w1.heap.size = w.heap.size + 4 ∧ w1.heap[w.heap.size]? = some (.cells (tot (.slice A n1 cA) m1 c1).toArray 39 (0, 0)) ∧ w1.heap[w.heap.size + 1]? = some (.cells (tcl x p s).toArray 33 (0, 0)) ∧ w1.heap[w.heap.size + 2]? = some (.cells (tot (.slice B n2 cB) m2 c2).toArray 39 (0, 0)) ∧ w1.heap[w.heap.size + 3]? = some (.cells noTot.toArray 39 (0, 0)))
        ⟨((((Below.refl _ _).alloc (Nat.le_refl _) _).alloc (by simp) _).alloc (by simp; omega) _).alloc (by simp; omega) _, by simp, alloc_keeps (alloc_keeps (alloc_keeps (alloc_at rfl))), alloc_keeps (alloc_keeps (alloc_at (by simp))), alloc_keeps (alloc_at (by simp)), alloc_at (by simp)⟩ ?_
      rintro w1 ⟨hb, hsz, k0, k1, k2, k3⟩
      go_wp2_with (first
        | (refine list_load_mid _ _ _ 0 _ _ rfl rfl rfl (At0.of_block k1) Tryd.underlying33 rfl (by kernel_rfl) ?_))
      refine call_then (hC.out _) ?_
      intro w3 hv
      replace hb := below_next hb (by have := hb.size; omega) hv
      replace k0 := keeps hv k0
      replace k1 := keeps hv k1
      replace k2 := keeps hv k2
      replace k3 := keeps hv k3
      clear hv
      clear hC hsz
      have q1 := At0.of_block k0 1 (.int .i64 m1) rfl
      have q2 := At0.of_block k2 1 (.int .i64 m2) rfl
      simp only [Nat.zero_add] at q1 q2
      clear k0 k1 k2
      have hone := Lib.hid (one_tot (A := none) (n := 0) (cp := 0) 0 (fun _ => 0))
      have hzz := hb.size
      go_wp2_with (first
        | (refine list_store_whole _ _ _ _ noTot noTot 39 rfl rfl rfl rfl k3 rfl (by kernel_rfl) hone.out ?_; intro w7 hbut kr))
      have hbe := hbut.below hb (by omega) hb.size
      have hlv := loadVar_whole (P := Tryd.prog) (ty := 39) _ (At0.of_block kr) Tryd.underlying39 rfl (by kernel_rfl)
      exact bodyPost_ret (v := .tuple #[.agg noTot.toArray, .int .i64 18]) (results_cell_tmpT Tryd.results15 rfl hlv rfl) rfl ⟨rfl, hbe⟩
    | false =>
      cases b3 : decide (m1 > 256) with
      | true =>
        clear hm
        go_enter Tryd.func15, Tryd.ntmps15
        go_upto_region 1 with (fail)
        refine name_wp (fun w1 => Below w.heap.size w w1 ∧ w1.heap.size = w.heap.size + 4 ∧ w1.heap[w.heap.size]? = some (.cells (tot (.slice A n1 cA) m1 c1).toArray 39 (0, 0)) ∧ w1.heap[w.heap.size + 1]? = some (.cells (tcl x p s).toArray 33 (0, 0)) ∧ w1.heap[w.heap.size + 2]? = some (.cells (tot (.slice B n2 cB) m2 c2).toArray 39 (0, 0)) ∧ w1.heap[w.heap.size + 3]? = some (.cells noTot.toArray 39 (0, 0)))
          ⟨((((Below.refl _ _).alloc (Nat.le_refl _) _).alloc (by simp) _).alloc (by simp; omega) _).alloc (by simp; omega) _, by simp, alloc_keeps (alloc_keeps (alloc_keeps (alloc_at rfl))), alloc_keeps (alloc_keeps (alloc_at (by simp))), alloc_keeps (alloc_at (by simp)), alloc_at (by simp)⟩ ?_
        rintro w1 ⟨hb, hsz, k0, k1, k2, k3⟩
        go_wp2_with (first
          | (refine list_load_mid _ _ _ 0 _ _ rfl rfl rfl (At0.of_block k1) Tryd.underlying33 rfl (by kernel_rfl) ?_))
        refine call_then (hC.out _) ?_
        intro w3 hv
        replace hb := below_next hb (by have := hb.size; omega) hv
        replace k0 := keeps hv k0
        replace k1 := keeps hv k1
        replace k2 := keeps hv k2
        replace k3 := keeps hv k3
        clear hv
        clear hC hsz
        have q1 := At0.of_block k0 1 (.int .i64 m1) rfl
        have q2 := At0.of_block k2 1 (.int .i64 m2) rfl
        simp only [Nat.zero_add] at q1 q2
        clear k0 k1 k2
        have hone := Lib.hid (one_tot (A := none) (n := 0) (cp := 0) 0 (fun _ => 0))
        have hzz := hb.size
        go_wp2_with (first
          | (refine list_store_whole _ _ _ _ noTot noTot 39 rfl rfl rfl rfl k3 rfl (by kernel_rfl) hone.out ?_; intro w7 hbut kr))
        have hbe := hbut.below hb (by omega) hb.size
        have hlv := loadVar_whole (P := Tryd.prog) (ty := 39) _ (At0.of_block kr) Tryd.underlying39 rfl (by kernel_rfl)
        exact bodyPost_ret (v := .tuple #[.agg noTot.toArray, .int .i64 18]) (results_cell_tmpT Tryd.results15 rfl hlv rfl) rfl ⟨rfl, hbe⟩
      | false =>
        have b4 : decide (m2 > 256 - m1) = true := by
          unfold few at hm
          rw [b1, b2, b3] at hm
          simpa using hm
        have i1 : 0 ≤ m1 := by simpa using b1
        have i2 : m1 ≤ 256 := by simpa using b3
        clear hm
        go_enter Tryd.func15, Tryd.ntmps15
        go_upto_region 1 with (fail)
        refine name_wp (fun w1 => Below w.heap.size w w1 ∧ w1.heap.size = w.heap.size + 4 ∧ w1.heap[w.heap.size]? = some (.cells (tot (.slice A n1 cA) m1 c1).toArray 39 (0, 0)) ∧ w1.heap[w.heap.size + 1]? = some (.cells (tcl x p s).toArray 33 (0, 0)) ∧ w1.heap[w.heap.size + 2]? = some (.cells (tot (.slice B n2 cB) m2 c2).toArray 39 (0, 0)) ∧ w1.heap[w.heap.size + 3]? = some (.cells noTot.toArray 39 (0, 0)))
          ⟨((((Below.refl _ _).alloc (Nat.le_refl _) _).alloc (by simp) _).alloc (by simp; omega) _).alloc (by simp; omega) _, by simp, alloc_keeps (alloc_keeps (alloc_keeps (alloc_at rfl))), alloc_keeps (alloc_keeps (alloc_at (by simp))), alloc_keeps (alloc_at (by simp)), alloc_at (by simp)⟩ ?_
        rintro w1 ⟨hb, hsz, k0, k1, k2, k3⟩
        go_wp2_with (first
          | (refine list_load_mid _ _ _ 0 _ _ rfl rfl rfl (At0.of_block k1) Tryd.underlying33 rfl (by kernel_rfl) ?_))
        refine call_then (hC.out _) ?_
        intro w3 hv
        replace hb := below_next hb (by have := hb.size; omega) hv
        replace k0 := keeps hv k0
        replace k1 := keeps hv k1
        replace k2 := keeps hv k2
        replace k3 := keeps hv k3
        clear hv
        clear hC hsz
        have q1 := At0.of_block k0 1 (.int .i64 m1) rfl
        have q2 := At0.of_block k2 1 (.int .i64 m2) rfl
        simp only [Nat.zero_add] at q1 q2
        clear k0 k1 k2
        have hone := Lib.hid (one_tot (A := none) (n := 0) (cp := 0) 0 (fun _ => 0))
        have hzz := hb.size
        go_wp2_with (first
          | (refine list_store_whole _ _ _ _ noTot noTot 39 rfl rfl rfl rfl k3 rfl (by kernel_rfl) hone.out ?_; intro w7 hbut kr))
        have hbe := hbut.below hb (by omega) hb.size
        have hlv := loadVar_whole (P := Tryd.prog) (ty := 39) _ (At0.of_block kr) Tryd.underlying39 rfl (by kernel_rfl)
        exact bodyPost_ret (v := .tuple #[.agg noTot.toArray, .int .i64 18]) (results_cell_tmpT Tryd.results15 rfl hlv rfl) rfl ⟨rfl, hbe⟩
set_option maxRecDepth 20000 in
set_option maxHeartbeats 4000000 in
theorem merge_size (x : Ci) (p : Int) (s : ByteArray) (h : TGood x p s) (A B : Option Addr) (n1 n2 cA cB : Nat) (m1 m2 : Int) (c1 c2 : Nat → Nat) (hm : few m1 m2 = true) (h1 : n1 ≤ maxLen) (h2 : n2 ≤ maxLen) (hne : n1 ≠ x.outN ∨ n2 ≠ x.outN) (w : World) :
    Calls Tryd.prog 15 #[totv (.slice A n1 cA) m1 c1, tvl x p s, totv (.slice B n2 cB) m2 c2] w fun e w' => e = .returned (.tuple #[.agg noTot.toArray, .int .i64 9]) ∧ Below w.heap.size w w' := by
  have hC := Lib.hid (fun w => tcheck_good h w)
  have hD := Lib.hid (fun w => added_size x p s h.good A B n1 n2 cA cB m1 m2 c1 c2 h1 h2 hne w)
  obtain ⟨j1, j2, j3⟩ := few_of hm
  have b1 : decide (m1 < 0) = false := by simp; omega
  have b2 : decide (m2 < 0) = false := by simp; omega
  have b3 : decide (m1 > 256) = false := by simp; omega
  have b4 : decide (m2 > 256 - m1) = false := by simp; omega
  have i1 : 0 ≤ m1 := by omega
  have i2 : m1 ≤ 256 := by omega
  unfold tvl totv at *
  clear h h1 h2 hne hm
  go_enter Tryd.func15, Tryd.ntmps15
  go_upto_region 1 with (fail)
  refine name_wp (fun w1 => Below w.heap.size w w1 ∧ w1.heap.size = w.heap.size + 4 ∧ w1.heap[w.heap.size]? = some (.cells (tot (.slice A n1 cA) m1 c1).toArray 39 (0, 0)) ∧ w1.heap[w.heap.size + 1]? = some (.cells (tcl x p s).toArray 33 (0, 0)) ∧ w1.heap[w.heap.size + 2]? = some (.cells (tot (.slice B n2 cB) m2 c2).toArray 39 (0, 0)) ∧ w1.heap[w.heap.size + 3]? = some (.cells noTot.toArray 39 (0, 0)))
    ⟨((((Below.refl _ _).alloc (Nat.le_refl _) _).alloc (by simp) _).alloc (by simp; omega) _).alloc (by simp; omega) _, by simp, alloc_keeps (alloc_keeps (alloc_keeps (alloc_at rfl))), alloc_keeps (alloc_keeps (alloc_at (by simp))), alloc_keeps (alloc_at (by simp)), alloc_at (by simp)⟩ ?_
  rintro w1 ⟨hb, hsz, k0, k1, k2, k3⟩
  go_wp2_with (first
    | (refine list_load_mid _ _ _ 0 _ _ rfl rfl rfl (At0.of_block k1) Tryd.underlying33 rfl (by kernel_rfl) ?_))
  refine call_then (hC.out _) ?_
  intro w3 hv
  replace hb := below_next hb (by have := hb.size; omega) hv
  replace k0 := keeps hv k0
  replace k1 := keeps hv k1
  replace k2 := keeps hv k2
  replace k3 := keeps hv k3
  clear hv
  clear hC hsz
  have q1 := At0.of_block k0 1 (.int .i64 m1) rfl
  have q2 := At0.of_block k2 1 (.int .i64 m2) rfl
  simp only [Nat.zero_add] at q1 q2
  go_wp2_with (first
    | (refine list_load_mid _ _ _ 0 _ _ rfl rfl rfl (At0.of_block k1) Tryd.underlying33 rfl (by kernel_rfl) ?_)
    | (refine list_load_mid _ _ _ 0 _ _ rfl rfl rfl (At0.of_block k0) Tryd.underlying39 rfl (by rw [tot_len]; kernel_rfl) ?_)
    | (refine list_load_mid _ _ _ 0 _ _ rfl rfl rfl (At0.of_block k2) Tryd.underlying39 rfl (by rw [tot_len]; kernel_rfl) ?_))
  refine call_then (hD.out _) ?_
  intro w4 hv
  replace hb := below_next hb (by have := hb.size; omega) hv
  replace k0 := keeps hv k0
  replace k1 := keeps hv k1
  replace k2 := keeps hv k2
  replace k3 := keeps hv k3
  clear hv
  clear q1 q2 k0 k1 k2 b1 b2 b3 b4
  have hone := Lib.hid (one_tot (A := none) (n := 0) (cp := 0) 0 (fun _ => 0))
  have hzz := hb.size
  go_wp2_with (first
    | (refine list_store_whole _ _ _ _ noTot noTot 39 rfl rfl rfl rfl k3 rfl (by kernel_rfl) hone.out ?_; intro w7 hbut kr))
  have hbe := hbut.below hb (by omega) hb.size
  have hlv := loadVar_whole (P := Tryd.prog) (ty := 39) _ (At0.of_block kr) Tryd.underlying39 rfl (by kernel_rfl)
  exact bodyPost_ret (v := .tuple #[.agg noTot.toArray, .int .i64 9]) (results_cell_tmpT Tryd.results15 rfl hlv rfl) rfl ⟨rfl, hbe⟩
end Go.Proofs.YtpojhomccmfffaaDoor
