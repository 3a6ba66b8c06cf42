/-
  Totals: what can't be unsharded, or taken; two totals held against each other.
-/
import Derived.Test.YtpojhomccmfffaaDoorTtJ
import Derived.Test.YtpojhomccmfffaaDoorRSame
namespace Go.Proofs.YtpojhomccmfffaaDoor
open Go.RowKit Flow F
set_option linter.unusedVariables false
set_option linter.unusedSimpArgs false
attribute [local go_sem] eqlIn_chkC

set_option maxRecDepth 20000 in
set_option maxHeartbeats 4000000 in
theorem unshard_task (x : Ci) (p : Int) (s : ByteArray) (hs : (s.size : Int) ≤ 9223372036854775807) (hbad : tcode x p s ≠ 0) (A B : Option Addr) (n1 n2 cA cB : Nat) (m1 m2 : Int) (c1 c2 : Nat → Nat) (w : World) :
    Calls Tryd.prog 26 #[tvl x p s, totv (.slice A n1 cA) m1 c1, totv (.slice B n2 cB) m2 c2] w fun e w' => e = .returned (.tuple #[.slice none 0 0, .int .i64 (tcode x p s)]) ∧ Below w.heap.size w w' := by
  have hC := fun w => tcheck_any x p s hs w
  unfold tvl totv at *
  have h1 : (tcode x p s != 0) = true := by simpa using hbad
  generalize tcode x p s = z at *
  replace hC := Lib.hid hC
  go_enter Tryd.func26, Tryd.ntmps26
  go_upto_region 1 with (fail)
  refine name_wp (fun w1 => Below w.heap.size w w1 ∧ w1.heap.size = w.heap.size + 3 ∧ w1.heap[w.heap.size]? = some (.cells (tcl x p s).toArray 33 (0, 0)) ∧ w1.heap[w.heap.size + 1]? = some (.cells (tot (.slice A n1 cA) m1 c1).toArray 39 (0, 0)) ∧ w1.heap[w.heap.size + 2]? = some (.cells (tot (.slice B n2 cB) m2 c2).toArray 39 (0, 0)))
    ⟨(((Below.refl _ _).alloc (Nat.le_refl _) _).alloc (by simp) _).alloc (by simp; omega) _, by simp, alloc_keeps (alloc_keeps (alloc_at rfl)), alloc_keeps (alloc_at (by simp)), alloc_at (by simp)⟩ ?_
  rintro w1 ⟨hb, hsz, k0, k1, k2⟩
  go_wp2_with (first
    | (refine list_load_mid _ _ _ 0 _ _ rfl rfl rfl (At0.of_block k0) Tryd.underlying33 rfl (by kernel_rfl) ?_))
  refine call_then (hC.out _) ?_
  intro w3 hv
  replace hb := below_next hb (by have := hb.size; omega) hv
  replace k0 := keeps hv k0
  replace k1 := keeps hv k1
  replace k2 := keeps hv k2
  clear hv
  clear hC hsz
  clear k0 k1 k2
  go_wp2
  go_ret2
  exact ⟨rfl, hb⟩
set_option maxRecDepth 20000 in
set_option maxHeartbeats 4000000 in
theorem unshard_size (x : Ci) (p : Int) (s : ByteArray) (h : TGood x p s) (A B : Option Addr) (n1 n2 cA cB : Nat) (m : Int) (c : Nat → Nat) (h1 : n1 ≤ maxLen) (h2 : n2 ≤ maxLen) (hne : n1 ≠ x.outN ∨ n2 ≠ x.outN) (w : World) :
    Calls Tryd.prog 26 #[tvl x p s, totv (.slice A n1 cA) m c, totv (.slice B n2 cB) m c] w fun e w' => e = .returned (.tuple #[.slice none 0 0, .int .i64 9]) ∧ Below w.heap.size w w' := by
  have hC := Lib.hid (fun w => tcheck_good h w)
  have hD := Lib.hid (fun w => added_size x p s h.good A B n1 n2 cA cB m m c c h1 h2 hne w)
  have hmm : (m != m) = false := by simp
  have hsc := sameC_refl c
  obtain ⟨m1, hm1⟩ : ∃ m1, m = m1 := ⟨_, rfl⟩
  obtain ⟨m2, hm2⟩ : ∃ m2, m = m2 := ⟨_, rfl⟩
  obtain ⟨c1, hc1⟩ : ∃ c1, c = c1 := ⟨_, rfl⟩
  obtain ⟨c2, hc2⟩ : ∃ c2, c = c2 := ⟨_, rfl⟩
  subst hm1
  subst hm2
  subst hc1
  subst hc2
  unfold tvl totv at *
  clear h h1 h2 hne
  go_enter Tryd.func26, Tryd.ntmps26
  go_upto_region 1 with (fail)
  refine name_wp (fun w1 => Below w.heap.size w w1 ∧ w1.heap.size = w.heap.size + 3 ∧ w1.heap[w.heap.size]? = some (.cells (tcl x p s).toArray 33 (0, 0)) ∧ w1.heap[w.heap.size + 1]? = some (.cells (tot (.slice A n1 cA) m c).toArray 39 (0, 0)) ∧ w1.heap[w.heap.size + 2]? = some (.cells (tot (.slice B n2 cB) m c).toArray 39 (0, 0)))
    ⟨(((Below.refl _ _).alloc (Nat.le_refl _) _).alloc (by simp) _).alloc (by simp; omega) _, by simp, alloc_keeps (alloc_keeps (alloc_at rfl)), alloc_keeps (alloc_at (by simp)), alloc_at (by simp)⟩ ?_
  rintro w1 ⟨hb, hsz, k0, k1, k2⟩
  go_wp2_with (first
    | (refine list_load_mid _ _ _ 0 _ _ rfl rfl rfl (At0.of_block k0) Tryd.underlying33 rfl (by kernel_rfl) ?_))
  refine call_then (hC.out _) ?_
  intro w3 hv
  replace hb := below_next hb (by have := hb.size; omega) hv
  replace k0 := keeps hv k0
  replace k1 := keeps hv k1
  replace k2 := keeps hv k2
  clear hv
  clear hC hsz
  have q1 := At0.of_block k1 1 (.int .i64 m) rfl
  have q2 := At0.of_block k2 1 (.int .i64 m) rfl
  simp only [Nat.zero_add] at q1 q2
  have r1 := sub_range (At0.of_block k1) 2 _ (tot_chk _ _ _)
  have r2 := sub_range (At0.of_block k2) 2 _ (tot_chk _ _ _)
  go_wp2_with (first
    | (refine list_load_mid _ _ _ 2 _ _ rfl rfl rfl r1 Tryd.underlying37 rfl (by rw [arr8_len]; kernel_rfl) ?_)
    | (refine list_load_mid _ _ _ 2 _ _ rfl rfl rfl r2 Tryd.underlying37 rfl (by rw [arr8_len]; kernel_rfl) ?_)
    | (refine list_load_mid _ _ _ 0 _ _ rfl rfl rfl (At0.of_block k0) Tryd.underlying33 rfl (by kernel_rfl) ?_)
    | (refine list_load_mid _ _ _ 0 _ _ rfl rfl rfl (At0.of_block k1) Tryd.underlying39 rfl (by rw [tot_len]; kernel_rfl) ?_)
    | (refine list_load_mid _ _ _ 0 _ _ rfl rfl rfl (At0.of_block k2) Tryd.underlying39 rfl (by rw [tot_len]; kernel_rfl) ?_))
  refine call_then (hD.out _) ?_
  intro w4 hv
  replace hb := below_next hb (by have := hb.size; omega) hv
  replace k0 := keeps hv k0
  replace k1 := keeps hv k1
  replace k2 := keeps hv k2
  clear hv
  clear k0 k1 k2 q1 q2 r1 r2 hD
  go_wp2
  go_ret2
  exact ⟨rfl, hb⟩
set_option maxRecDepth 20000 in
set_option maxHeartbeats 4000000 in
theorem take_task (x : Ci) (p : Int) (s : ByteArray) (hs : (s.size : Int) ≤ 9223372036854775807) (hbad : tcode x p s ≠ 0) (b : Value) (w : World) :
    Calls Tryd.prog 30 #[tvl x p s, b] w fun e w' => e = .returned (.tuple #[.agg noTot.toArray, .int .i64 (tcode x p s)]) ∧ Below w.heap.size w w' := by
  have hC := fun w => tcheck_any x p s hs w
  unfold tvl at *
  have h1 : (tcode x p s != 0) = true := by simpa using hbad
  generalize tcode x p s = z at *
  replace hC := Lib.hid hC
  have hone := Lib.hid (one_tot (A := none) (n := 0) (cp := 0) 0 (fun _ => 0))
  go_enter Tryd.func30, Tryd.ntmps30
  go_upto_region 1 with (fail)
  refine name_wp (fun w1 => Below w.heap.size w w1 ∧ w1.heap.size = w.heap.size + 2 ∧ w1.heap[w.heap.size]? = some (.cells (tcl x p s).toArray 33 (0, 0)) ∧ w1.heap[w.heap.size + 1]? = some (.cells noTot.toArray 39 (0, 0)))
    ⟨((Below.refl _ _).alloc (Nat.le_refl _) _).alloc (by simp) _, by simp, alloc_keeps (alloc_at rfl), alloc_at (by simp)⟩ ?_
  rintro w1 ⟨hb, hsz, k0, k1⟩
  go_wp2_with (first
    | (refine list_load_mid _ _ _ 0 _ _ rfl rfl rfl (At0.of_block k0) Tryd.underlying33 rfl (by kernel_rfl) ?_))
  refine call_then (hC.out _) ?_
  intro w3 hv
  replace k1 := keeps hv k1
  replace hb := below_next hb (by omega) hv
  clear hv hC hsz k0
  go_wp2_with (first
    | (refine list_store_whole _ _ _ _ noTot noTot 39 rfl rfl rfl rfl k1 rfl (by kernel_rfl) hone.out ?_; intro w7 hbut kr))
  have hbe := hbut.below hb (by omega) hb.size
  have hlv := loadVar_whole (P := Tryd.prog) (ty := 39) _ (At0.of_block kr) Tryd.underlying39 rfl (by kernel_rfl)
  exact bodyPost_ret (v := .tuple #[.agg noTot.toArray, .int .i64 z]) (results_cell_tmpT Tryd.results30 rfl hlv rfl) rfl ⟨rfl, hbe⟩
end Go.Proofs.YtpojhomccmfffaaDoor
