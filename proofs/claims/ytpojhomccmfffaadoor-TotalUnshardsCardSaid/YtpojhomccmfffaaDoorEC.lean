import Derived.Test.YtpojhomccmfffaaDoorEB
/-
  Totals: the sum of two's; two as one.
-/
namespace Go.Proofs.YtpojhomccmfffaaDoor
open Go.RowKit Flow F
set_option linter.unusedVariables false
set_option linter.unusedSimpArgs false

theorem out_le4 {x : Ci} (h : x.Good) : x.outN ≤ 4096 := by
  unfold Ci.outN
  split
  · omega
  · have h1 := h.fits.k1
    have h5 := h.fits.k5
    have := h.fits.l (by omega)
    omega
set_option maxRecDepth 20000 in
set_option maxHeartbeats 4000000 in
theorem added_size (x : Ci) (p : Int) (s : ByteArray) (h : x.Good) (A B : Option Addr) (n1 n2 cA cB : Nat) (m1 m2 : Int) (c1 c2 : Nat → Nat) (h1 : n1 ≤ maxLen) (h2 : n2 ≤ maxLen) (hne : n1 ≠ x.outN ∨ n2 ≠ x.outN) (w : World) :
    Calls Tryd.prog 48 #[tvl x p s, totv (.slice A n1 cA) m1 c1, totv (.slice B n2 cB) m2 c2] w fun e w' => e = .returned (.tuple #[.slice none 0 0, .int .i64 9]) ∧ Below w.heap.size w w' := by
  have hO := Lib.hid (out_any x h)
  unfold tvl totv
  unfold maxLen at h1 h2
  have hle : x.outN ≤ 4096 := out_le4 h
  generalize x.outN = N at *
  have hlt : (N : Int) ≤ 4096 := by omega
  by_cases e1 : n1 = N
  · have b1 : ((n1 : Int) != (N : Int)) = false := by simp; omega
    have b2 : ((n2 : Int) != (N : Int)) = true := by simp; omega
    subst e1
    clear h b1
    go_enter Tryd.func48, Tryd.ntmps48
    go_upto_region 1 with (fail)
    refine name_wp (fun w1 => Below w.heap.size w w1 ∧ w1.heap.size = w.heap.size + 3 ∧ w1.heap[w.heap.size]? = some (.cells (tcl x p s).toArray 33 (0, 0)) ∧ w1.heap[w.heap.size + 1]? = some (.cells (tot (.slice A n1 cA) m1 c1).toArray 39 (0, 0)) ∧ w1.heap[w.heap.size + 2]? = some (.cells (tot (.slice B n2 cB) m2 c2).toArray 39 (0, 0)))
      ⟨(((Below.refl _ _).alloc (Nat.le_refl _) _).alloc (by simp) _).alloc (by simp; omega) _, by simp, alloc_keeps (alloc_keeps (alloc_at rfl)), alloc_keeps (alloc_at (by simp)), alloc_at (by simp)⟩ ?_
    rintro w1 ⟨hb, hsz, k0, k1, k2⟩
    have hcm : w1.rangeAt w.heap.size 0 (ccl x) := sub_range (At0.of_block k0) 0 _ (tcl_ccl x p s)
    have hO2 := Lib.hid (fun w => (hO.out w : Calls Tryd.prog 20 #[.agg (ccl x).toArray] w _))
    clear hO
    go_wp2_with (first
      | (refine list_load_mid _ _ _ 0 _ _ rfl rfl rfl hcm Tryd.underlying31 rfl (by kernel_rfl) ?_))
    refine call_then (hO2.out _) ?_
    intro w3 hv
    replace hb := below_next hb (by omega) hv
    replace k0 := keeps hv k0
    replace k1 := keeps hv k1
    replace k2 := keeps hv k2
    clear hv hO2 hcm hsz
    have s1 := At0.of_block k1 0 (.slice A n1 cA) rfl
    have s2 := At0.of_block k2 0 (.slice B n2 cB) rfl
    have f1 := At0.of_block k0 1 (.int .u8 x.f) rfl
    simp only [Nat.zero_add] at s1 s2 f1
    clear k0 k1 k2
    go_wp2
    go_ret2
    exact ⟨rfl, hb⟩
  · have b1 : ((n1 : Int) != (N : Int)) = true := by simp; omega
    clear h
    go_enter Tryd.func48, Tryd.ntmps48
    go_upto_region 1 with (fail)
    refine name_wp (fun w1 => Below w.heap.size w w1 ∧ w1.heap.size = w.heap.size + 3 ∧ w1.heap[w.heap.size]? = some (.cells (tcl x p s).toArray 33 (0, 0)) ∧ w1.heap[w.heap.size + 1]? = some (.cells (tot (.slice A n1 cA) m1 c1).toArray 39 (0, 0)) ∧ w1.heap[w.heap.size + 2]? = some (.cells (tot (.slice B n2 cB) m2 c2).toArray 39 (0, 0)))
      ⟨(((Below.refl _ _).alloc (Nat.le_refl _) _).alloc (by simp) _).alloc (by simp; omega) _, by simp, alloc_keeps (alloc_keeps (alloc_at rfl)), alloc_keeps (alloc_at (by simp)), alloc_at (by simp)⟩ ?_
    rintro w1 ⟨hb, hsz, k0, k1, k2⟩
    have hcm : w1.rangeAt w.heap.size 0 (ccl x) := sub_range (At0.of_block k0) 0 _ (tcl_ccl x p s)
    have hO2 := Lib.hid (fun w => (hO.out w : Calls Tryd.prog 20 #[.agg (ccl x).toArray] w _))
    clear hO
    go_wp2_with (first
      | (refine list_load_mid _ _ _ 0 _ _ rfl rfl rfl hcm Tryd.underlying31 rfl (by kernel_rfl) ?_))
    refine call_then (hO2.out _) ?_
    intro w3 hv
    replace hb := below_next hb (by omega) hv
    replace k0 := keeps hv k0
    replace k1 := keeps hv k1
    replace k2 := keeps hv k2
    clear hv hO2 hcm hsz
    have s1 := At0.of_block k1 0 (.slice A n1 cA) rfl
    have s2 := At0.of_block k2 0 (.slice B n2 cB) rfl
    have f1 := At0.of_block k0 1 (.int .u8 x.f) rfl
    simp only [Nat.zero_add] at s1 s2 f1
    clear k0 k1 k2
    go_wp2
    go_ret2
    exact ⟨rfl, hb⟩
set_option maxRecDepth 20000 in
set_option maxHeartbeats 4000000 in
theorem added_ok (x : Ci) (p : Int) (s : ByteArray) (h : x.Good) (xs ys : List Int) (A B : Option Addr) (n1 n2 cA cB : Nat) (m1 m2 : Int) (c1 c2 : Nat → Nat) (h1 : n1 = x.outN) (h2 : n2 = n1) (hx : ElemsOK xs) (hy : ElemsOK ys) (hxl : xs.length = n1) (hyl : ys.length = n1) (w : World) (hA : ElemsAt w A xs) (hB : ElemsAt w B ys) :
    Calls Tryd.prog 48 #[tvl x p s, totv (.slice A n1 cA) m1 c1, totv (.slice B n2 cB) m2 c2] w fun e w' => ∃ g, e = .returned (.tuple #[.slice (some ⟨g, 0, none⟩) n1 n1, .int .i64 0]) ∧ Below w.heap.size w w' ∧ w.heap.size ≤ g ∧ Row w' g (List.zipWith (add x.f) xs ys) := by
  have hO := Lib.hid (out_any x h)
  have hle : x.outN ≤ 4096 := out_le4 h
  have fb := fb_of h.f
  have hV := fun (w : World) hA hB => faddvec_any x.f (add x.f) xs ys A B cA cB hx hy (by omega) (hxl.trans hyl.symm) fb.hval fb.hadd w hA hB
  rw [hxl, hyl] at hV
  generalize List.zipWith (add x.f) xs ys = zs at *
  unfold tvl totv
  rw [← h1] at hO hle
  subst h2
  replace hV := Lib.hid hV
  replace hA := Lib.hid hA
  replace hB := Lib.hid hB
  replace hxl := Lib.hid hxl
  replace hyl := Lib.hid hyl
  clear h fb h1 hx hy
  have hlt : (n2 : Int) ≤ 4096 := by omega
  obtain ⟨n1, hn⟩ : ∃ n1, n1 = n2 := ⟨_, rfl⟩
  subst hn
  go_enter Tryd.func48, Tryd.ntmps48
  go_upto_region 1 with (fail)
  refine name_wp (fun w1 => Below w.heap.size w w1 ∧ w1.heap.size = w.heap.size + 3 ∧ w1.heap[w.heap.size]? = some (.cells (tcl x p s).toArray 33 (0, 0)) ∧ w1.heap[w.heap.size + 1]? = some (.cells (tot (.slice A n1 cA) m1 c1).toArray 39 (0, 0)) ∧ w1.heap[w.heap.size + 2]? = some (.cells (tot (.slice B n1 cB) m2 c2).toArray 39 (0, 0)))
    ⟨(((Below.refl _ _).alloc (Nat.le_refl _) _).alloc (by simp) _).alloc (by simp; omega) _, by simp, alloc_keeps (alloc_keeps (alloc_at rfl)), alloc_keeps (alloc_at (by simp)), alloc_at (by simp)⟩ ?_
  rintro w1 ⟨hb, hsz, k0, k1, k2⟩
  have hcm : w1.rangeAt w.heap.size 0 (ccl x) := sub_range (At0.of_block k0) 0 _ (tcl_ccl x p s)
  have hO2 := Lib.hid (fun w => (hO.out w : Calls Tryd.prog 20 #[.agg (ccl x).toArray] w _))
  clear hO
  go_wp2_with (first
    | (refine list_load_mid _ _ _ 0 _ _ rfl rfl rfl hcm Tryd.underlying31 rfl (by kernel_rfl) ?_))
  refine call_then (hO2.out _) ?_
  intro w3 hv
  replace hb := below_next hb (by omega) hv
  replace k0 := keeps hv k0
  replace k1 := keeps hv k1
  replace k2 := keeps hv k2
  clear hv hO2 hcm hsz
  have s1 := At0.of_block k1 0 (.slice A n1 cA) rfl
  have s2 := At0.of_block k2 0 (.slice B n1 cB) rfl
  have f1 := At0.of_block k0 1 (.int .u8 x.f) rfl
  simp only [Nat.zero_add] at s1 s2 f1
  clear k0 k1 k2
  have hV2 := Lib.hid (hV.out w3 (hA.out.up hb) (hB.out.up hb))
  clear hV hA hB
  have hsz := hb.size
  go_wp2_with fail
  refine hV2.out.mono ?_
  rintro e w4 ⟨g, rfl, hv, hg, hr⟩
  replace hb := below_next hb hb.size hv
  replace hr := Lib.hid hr
  clear hV2 hv s1 s2 f1
  go_wp2
  go_ret2
  exact ⟨g, rfl, hb, by omega, hr.out⟩
end Go.Proofs.YtpojhomccmfffaaDoor

/-
  Totals: two as one; a report's share more.
-/
namespace Go.Proofs.YtpojhomccmfffaaDoor
open Go.RowKit Flow F
set_option linter.unusedVariables false
set_option linter.unusedSimpArgs false

/-- May two's numbers of reports be added? -/
def few (m1 m2 : Int) : Bool := !(decide (m1 < 0)) && !(decide (m2 < 0)) && !(decide (m1 > 256)) && !(decide (m2 > 256 - m1))
theorem few_of {m1 m2 : Int} (h : few m1 m2 = true) : 0 ≤ m1 ∧ 0 ≤ m2 ∧ m1 + m2 ≤ 256 := by
  unfold few at h
  simp at h
  omega
set_option maxRecDepth 20000 in
set_option maxHeartbeats 4000000 in
theorem merge_task (x : Ci) (p : Int) (s : ByteArray) (hs : (s.size : Int) ≤ 9223372036854775807) (hbad : tcode x p s ≠ 0) (A B : Option Addr) (n1 n2 cA cB : Nat) (m1 m2 : Int) (c1 c2 : Nat → Nat) (w : World) :
    Calls Tryd.prog 15 #[totv (.slice A n1 cA) m1 c1, tvl x p s, totv (.slice B n2 cB) m2 c2] w fun e w' => e = .returned (.tuple #[.agg noTot.toArray, .int .i64 (tcode x p s)]) ∧ Below w.heap.size w w' := by
  have hC := fun w => tcheck_any x p s hs w
  unfold tvl totv at *
  have h1 : (tcode x p s != 0) = true := by simpa using hbad
  generalize tcode x p s = z at *
  replace hC := Lib.hid hC
  go_enter Tryd.func15, Tryd.ntmps15
  go_upto_region 1 with (fail)
  refine name_wp (fun w1 => Below w.heap.size w w1 ∧ w1.heap.size = w.heap.size + 4 ∧ w1.heap[w.heap.size]? = some (.cells (tot (.slice A n1 cA) m1 c1).toArray 39 (0, 0)) ∧ w1.heap[w.heap.size + 1]? = some (.cells (tcl x p s).toArray 33 (0, 0)) ∧ w1.heap[w.heap.size + 2]? = some (.cells (tot (.slice B n2 cB) m2 c2).toArray 39 (0, 0)) ∧ w1.heap[w.heap.size + 3]? = some (.cells noTot.toArray 39 (0, 0)))
    ⟨((((Below.refl _ _).alloc (Nat.le_refl _) _).alloc (by simp) _).alloc (by simp; omega) _).alloc (by simp; omega) _, by simp, alloc_keeps (alloc_keeps (alloc_keeps (alloc_at rfl))), alloc_keeps (alloc_keeps (alloc_at (by simp))), alloc_keeps (alloc_at (by simp)), alloc_at (by simp)⟩ ?_
  rintro w1 ⟨hb, hsz, k0, k1, k2, k3⟩
  go_wp2_with (first
    | (refine list_load_mid _ _ _ 0 _ _ rfl rfl rfl (At0.of_block k1) Tryd.underlying33 rfl (by kernel_rfl) ?_))
  refine call_then (hC.out _) ?_
  intro w3 hv
  replace hb := below_next hb (by have := hb.size; omega) hv
  replace k0 := keeps hv k0
  replace k1 := keeps hv k1
  replace k2 := keeps hv k2
  replace k3 := keeps hv k3
  clear hv
  clear hC hsz
  clear k0 k1 k2
  have hone := Lib.hid (one_tot (A := none) (n := 0) (cp := 0) 0 (fun _ => 0))
  have hzz := hb.size
  go_wp2_with (first
    | (refine list_store_whole _ _ _ _ noTot noTot 39 rfl rfl rfl rfl k3 rfl (by kernel_rfl) hone.out ?_; intro w7 hbut kr))
  have hbe := hbut.below hb (by omega) hb.size
  have hlv := loadVar_whole (P := Tryd.prog) (ty := 39) _ (At0.of_block kr) Tryd.underlying39 rfl (by kernel_rfl)
  exact bodyPost_ret (v := .tuple #[.agg noTot.toArray, .int .i64 z]) (results_cell_tmpT Tryd.results15 rfl hlv rfl) rfl ⟨rfl, hbe⟩
set_option maxRecDepth 20000 in
set_option maxHeartbeats 4000000 in
theorem merge_full (x : Ci) (p : Int) (s : ByteArray) (h : TGood x p s) (A B : Option Addr) (n1 n2 cA cB : Nat) (m1 m2 : Int) (c1 c2 : Nat → Nat) (hm : few m1 m2 = false) (w : World) :
    Calls Tryd.prog 15 #[totv (.slice A n1 cA) m1 c1, tvl x p s, totv (.slice B n2 cB) m2 c2] w fun e w' => e = .returned (.tuple #[.agg noTot.toArray, .int .i64 18]) ∧ Below w.heap.size w w' := by
  have hC := Lib.hid (fun w => tcheck_good h w)
  unfold tvl totv at *
  clear h
  cases b1 : decide (m1 < 0) with
  | true =>
    clear hm
    go_enter Tryd.func15, Tryd.ntmps15
    go_upto_region 1 with (fail)
    refine name_wp (fun w1 => Below w.heap.size w w1 ∧ w1.heap.size = w.heap.size + 4 ∧ w1.heap[w.heap.size]? = some (.cells (tot (.slice A n1 cA) m1 c1).toArray 39 (0, 0)) ∧ w1.heap[w.heap.size + 1]? = some (.cells (tcl x p s).toArray 33 (0, 0)) ∧ w1.heap[w.heap.size + 2]? = some (.cells (tot (.slice B n2 cB) m2 c2).toArray 39 (0, 0)) ∧ w1.heap[w.heap.size + 3]? = some (.cells noTot.toArray 39 (0, 0)))
      ⟨((((Below.refl _ _).alloc (Nat.le_refl _) _).alloc (by simp) _).alloc (by simp; omega) _).alloc (by simp; omega) _, by simp, alloc_keeps (alloc_keeps (alloc_keeps (alloc_at rfl))), alloc_keeps (alloc_keeps (alloc_at (by simp))), alloc_keeps (alloc_at (by simp)), alloc_at (by simp)⟩ ?_
    rintro w1 ⟨hb, hsz, k0, k1, k2, k3⟩
    go_wp2_with (first
      | (refine list_load_mid _ _ _ 0 _ _ rfl rfl rfl (At0.of_block k1) Tryd.underlying33 rfl (by kernel_rfl) ?_))
    refine call_then (hC.out _) ?_
    intro w3 hv
    replace hb := below_next hb (by have := hb.size; omega) hv
    replace k0 := keeps hv k0
    replace k1 := keeps hv k1
    replace k2 := keeps hv k2
    replace k3 := keeps hv k3
    clear hv
    clear hC hsz
    have q1 := At0.of_block k0 1 (.int .i64 m1) rfl
    have q2 := At0.of_block k2 1 (.int .i64 m2) rfl
    simp only [Nat.zero_add] at q1 q2
    clear k0 k1 k2
    have hone := Lib.hid (one_tot (A := none) (n := 0) (cp := 0) 0 (fun _ => 0))
    have hzz := hb.size
    go_wp2_with (first
      | (refine list_store_whole _ _ _ _ noTot noTot 39 rfl rfl rfl rfl k3 rfl (by kernel_rfl) hone.out ?_; intro w7 hbut kr))
    have hbe := hbut.below hb (by omega) hb.size
    have hlv := loadVar_whole (P := Tryd.prog) (ty := 39) _ (At0.of_block kr) Tryd.underlying39 rfl (by kernel_rfl)
    exact bodyPost_ret (v := .tuple #[.agg noTot.toArray, .int .i64 18]) (results_cell_tmpT Tryd.results15 rfl hlv rfl) rfl ⟨rfl, hbe⟩
  | false =>
    cases b2 : decide (m2 < 0) with
    | true =>
      clear hm
      go_enter Tryd.func15, Tryd.ntmps15
      go_upto_region 1 with (fail)
      refine name_wp (fun w1 => Below w.heap.size w w1 ∧ w1.heap.size = w.heap.size + 4 ∧ w1.heap[w.heap.size]? = some (.cells (tot (.slice A n1 cA) m1 c1).toArray 39 (0, 0)) ∧ w1.heap[w.heap.size + 1]? = some (.cells (tcl x p s).toArray 33 (0, 0)) ∧ w1.heap[w.heap.size + 2]? = some (.cells (tot (.slice B n2 cB) m2 c2).toArray 39 (0, 0)) ∧ w1.heap[w.heap.size + 3]? = some (.cells noTot.toArray 39 (0, 0)))
        ⟨((((Below.refl _ _).alloc (Nat.le_refl _) _).alloc (by simp) _).alloc (by simp; omega) _).alloc (by simp; omega) _, by simp, alloc_keeps (alloc_keeps (alloc_keeps (alloc_at rfl))), alloc_keeps (alloc_keeps (alloc_at (by simp))), alloc_keeps (alloc_at (by simp)), alloc_at (by simp)⟩ ?_
      rintro w1 ⟨hb, hsz, k0, k1, k2, k3⟩
      go_wp2_with (first
        | (refine list_load_mid _ _ _ 0 _ _ rfl rfl rfl (At0.of_block k1) Tryd.underlying33 rfl (by kernel_rfl) ?_))
      refine call_then (hC.out _) ?_
      intro w3 hv
      replace hb := below_next hb (by have := hb.size; omega) hv
      replace k0 := keeps hv k0
      replace k1 := keeps hv k1
      replace k2 := keeps hv k2
      replace k3 := keeps hv k3
      clear hv
      clear hC hsz
      have q1 := At0.of_block k0 1 (.int .i64 m1) rfl
      have q2 := At0.of_block k2 1 (.int .i64 m2) rfl
      simp only [Nat.zero_add] at q1 q2
      clear k0 k1 k2
      have hone := Lib.hid (one_tot (A := none) (n := 0) (cp := 0) 0 (fun _ => 0))
      have hzz := hb.size
      go_wp2_with (first
        | (refine list_store_whole _ _ _ _ noTot noTot 39 rfl rfl rfl rfl k3 rfl (by kernel_rfl) hone.out ?_; intro w7 hbut kr))
      have hbe := hbut.below hb (by omega) hb.size
      have hlv := loadVar_whole (P := Tryd.prog) (ty := 39) _ (At0.of_block kr) Tryd.underlying39 rfl (by kernel_rfl)
      exact bodyPost_ret (v := .tuple #[.agg noTot.toArray, .int .i64 18]) (results_cell_tmpT Tryd.results15 rfl hlv rfl) rfl ⟨rfl, hbe⟩
    | false =>
      cases b3 : decide (m1 > 256) with
      | true =>
        clear hm
        go_enter Tryd.func15, Tryd.ntmps15
        go_upto_region 1 with (fail)
        refine name_wp (fun w1 => Below w.heap.size w w1 ∧ w1.heap.size = w.heap.size + 4 ∧ w1.heap[w.heap.size]? = some (.cells (tot (.slice A n1 cA) m1 c1).toArray 39 (0, 0)) ∧ w1.heap[w.heap.size + 1]? = some (.cells (tcl x p s).toArray 33 (0, 0)) ∧ w1.heap[w.heap.size + 2]? = some (.cells (tot (.slice B n2 cB) m2 c2).toArray 39 (0, 0)) ∧ w1.heap[w.heap.size + 3]? = some (.cells noTot.toArray 39 (0, 0)))
          ⟨((((Below.refl _ _).alloc (Nat.le_refl _) _).alloc (by simp) _).alloc (by simp; omega) _).alloc (by simp; omega) _, by simp, alloc_keeps (alloc_keeps (alloc_keeps (alloc_at rfl))), alloc_keeps (alloc_keeps (alloc_at (by simp))), alloc_keeps (alloc_at (by simp)), alloc_at (by simp)⟩ ?_
        rintro w1 ⟨hb, hsz, k0, k1, k2, k3⟩
        go_wp2_with (first
          | (refine list_load_mid _ _ _ 0 _ _ rfl rfl rfl (At0.of_block k1) Tryd.underlying33 rfl (by kernel_rfl) ?_))
        refine call_then (hC.out _) ?_
        intro w3 hv
        replace hb := below_next hb (by have := hb.size; omega) hv
        replace k0 := keeps hv k0
        replace k1 := keeps hv k1
        replace k2 := keeps hv k2
        replace k3 := keeps hv k3
        clear hv
        clear hC hsz
        have q1 := At0.of_block k0 1 (.int .i64 m1) rfl
        have q2 := At0.of_block k2 1 (.int .i64 m2) rfl
        simp only [Nat.zero_add] at q1 q2
        clear k0 k1 k2
        have hone := Lib.hid (one_tot (A := none) (n := 0) (cp := 0) 0 (fun _ => 0))
        have hzz := hb.size
        go_wp2_with (first
          | (refine list_store_whole _ _ _ _ noTot noTot 39 rfl rfl rfl rfl k3 rfl (by kernel_rfl) hone.out ?_; intro w7 hbut kr))
        have hbe := hbut.below hb (by omega) hb.size
        have hlv := loadVar_whole (P := Tryd.prog) (ty := 39) _ (At0.of_block kr) Tryd.underlying39 rfl (by kernel_rfl)
        exact bodyPost_ret (v := .tuple #[.agg noTot.toArray, .int .i64 18]) (results_cell_tmpT Tryd.results15 rfl hlv rfl) rfl ⟨rfl, hbe⟩
      | false =>
        have b4 : decide (m2 > 256 - m1) = true := by
          unfold few at hm
          rw [b1, b2, b3] at hm
          simpa using hm
        have i1 : 0 ≤ m1 := by simpa using b1
        have i2 : m1 ≤ 256 := by simpa using b3
        clear hm
        go_enter Tryd.func15, Tryd.ntmps15
        go_upto_region 1 with (fail)
        refine name_wp (fun w1 => Below w.heap.size w w1 ∧ w1.heap.size = w.heap.size + 4 ∧ w1.heap[w.heap.size]? = some (.cells (tot (.slice A n1 cA) m1 c1).toArray 39 (0, 0)) ∧ w1.heap[w.heap.size + 1]? = some (.cells (tcl x p s).toArray 33 (0, 0)) ∧ w1.heap[w.heap.size + 2]? = some (.cells (tot (.slice B n2 cB) m2 c2).toArray 39 (0, 0)) ∧ w1.heap[w.heap.size + 3]? = some (.cells noTot.toArray 39 (0, 0)))
          ⟨((((Below.refl _ _).alloc (Nat.le_refl _) _).alloc (by simp) _).alloc (by simp; omega) _).alloc (by simp; omega) _, by simp, alloc_keeps (alloc_keeps (alloc_keeps (alloc_at rfl))), alloc_keeps (alloc_keeps (alloc_at (by simp))), alloc_keeps (alloc_at (by simp)), alloc_at (by simp)⟩ ?_
        rintro w1 ⟨hb, hsz, k0, k1, k2, k3⟩
        go_wp2_with (first
          | (refine list_load_mid _ _ _ 0 _ _ rfl rfl rfl (At0.of_block k1) Tryd.underlying33 rfl (by kernel_rfl) ?_))
        refine call_then (hC.out _) ?_
        intro w3 hv
        replace hb := below_next hb (by have := hb.size; omega) hv
        replace k0 := keeps hv k0
        replace k1 := keeps hv k1
        replace k2 := keeps hv k2
        replace k3 := keeps hv k3
        clear hv
        clear hC hsz
        have q1 := At0.of_block k0 1 (.int .i64 m1) rfl
        have q2 := At0.of_block k2 1 (.int .i64 m2) rfl
        simp only [Nat.zero_add] at q1 q2
        clear k0 k1 k2
        have hone := Lib.hid (one_tot (A := none) (n := 0) (cp := 0) 0 (fun _ => 0))
        have hzz := hb.size
        go_wp2_with (first
          | (refine list_store_whole _ _ _ _ noTot noTot 39 rfl rfl rfl rfl k3 rfl (by kernel_rfl) hone.out ?_; intro w7 hbut kr))
        have hbe := hbut.below hb (by omega) hb.size
        have hlv := loadVar_whole (P := Tryd.prog) (ty := 39) _ (At0.of_block kr) Tryd.underlying39 rfl (by kernel_rfl)
        exact bodyPost_ret (v := .tuple #[.agg noTot.toArray, .int .i64 18]) (results_cell_tmpT Tryd.results15 rfl hlv rfl) rfl ⟨rfl, hbe⟩
set_option maxRecDepth 20000 in
set_option maxHeartbeats 4000000 in
theorem merge_size (x : Ci) (p : Int) (s : ByteArray) (h : TGood x p s) (A B : Option Addr) (n1 n2 cA cB : Nat) (m1 m2 : Int) (c1 c2 : Nat → Nat) (hm : few m1 m2 = true) (h1 : n1 ≤ maxLen) (h2 : n2 ≤ maxLen) (hne : n1 ≠ x.outN ∨ n2 ≠ x.outN) (w : World) :
    Calls Tryd.prog 15 #[totv (.slice A n1 cA) m1 c1, tvl x p s, totv (.slice B n2 cB) m2 c2] w fun e w' => e = .returned (.tuple #[.agg noTot.toArray, .int .i64 9]) ∧ Below w.heap.size w w' := by
  have hC := Lib.hid (fun w => tcheck_good h w)
  have hD := Lib.hid (fun w => added_size x p s h.good A B n1 n2 cA cB m1 m2 c1 c2 h1 h2 hne w)
  obtain ⟨j1, j2, j3⟩ := few_of hm
  have b1 : decide (m1 < 0) = false := by simp; omega
  have b2 : decide (m2 < 0) = false := by simp; omega
  have b3 : decide (m1 > 256) = false := by simp; omega
  have b4 : decide (m2 > 256 - m1) = false := by simp; omega
  have i1 : 0 ≤ m1 := by omega
  have i2 : m1 ≤ 256 := by omega
  unfold tvl totv at *
  clear h h1 h2 hne hm
  go_enter Tryd.func15, Tryd.ntmps15
  go_upto_region 1 with (fail)
  refine name_wp (fun w1 => Below w.heap.size w w1 ∧ w1.heap.size = w.heap.size + 4 ∧ w1.heap[w.heap.size]? = some (.cells (tot (.slice A n1 cA) m1 c1).toArray 39 (0, 0)) ∧ w1.heap[w.heap.size + 1]? = some (.cells (tcl x p s).toArray 33 (0, 0)) ∧ w1.heap[w.heap.size + 2]? = some (.cells (tot (.slice B n2 cB) m2 c2).toArray 39 (0, 0)) ∧ w1.heap[w.heap.size + 3]? = some (.cells noTot.toArray 39 (0, 0)))
    ⟨((((Below.refl _ _).alloc (Nat.le_refl _) _).alloc (by simp) _).alloc (by simp; omega) _).alloc (by simp; omega) _, by simp, alloc_keeps (alloc_keeps (alloc_keeps (alloc_at rfl))), alloc_keeps (alloc_keeps (alloc_at (by simp))), alloc_keeps (alloc_at (by simp)), alloc_at (by simp)⟩ ?_
  rintro w1 ⟨hb, hsz, k0, k1, k2, k3⟩
  go_wp2_with (first
    | (refine list_load_mid _ _ _ 0 _ _ rfl rfl rfl (At0.of_block k1) Tryd.underlying33 rfl (by kernel_rfl) ?_))
  refine call_then (hC.out _) ?_
  intro w3 hv
  replace hb := below_next hb (by have := hb.size; omega) hv
  replace k0 := keeps hv k0
  replace k1 := keeps hv k1
  replace k2 := keeps hv k2
  replace k3 := keeps hv k3
  clear hv
  clear hC hsz
  have q1 := At0.of_block k0 1 (.int .i64 m1) rfl
  have q2 := At0.of_block k2 1 (.int .i64 m2) rfl
  simp only [Nat.zero_add] at q1 q2
  go_wp2_with (first
    | (refine list_load_mid _ _ _ 0 _ _ rfl rfl rfl (At0.of_block k1) Tryd.underlying33 rfl (by kernel_rfl) ?_)
    | (refine list_load_mid _ _ _ 0 _ _ rfl rfl rfl (At0.of_block k0) Tryd.underlying39 rfl (by rw [tot_len]; kernel_rfl) ?_)
    | (refine list_load_mid _ _ _ 0 _ _ rfl rfl rfl (At0.of_block k2) Tryd.underlying39 rfl (by rw [tot_len]; kernel_rfl) ?_))
  refine call_then (hD.out _) ?_
  intro w4 hv
  replace hb := below_next hb (by have := hb.size; omega) hv
  replace k0 := keeps hv k0
  replace k1 := keeps hv k1
  replace k2 := keeps hv k2
  replace k3 := keeps hv k3
  clear hv
  clear q1 q2 k0 k1 k2 b1 b2 b3 b4
  have hone := Lib.hid (one_tot (A := none) (n := 0) (cp := 0) 0 (fun _ => 0))
  have hzz := hb.size
  go_wp2_with (first
    | (refine list_store_whole _ _ _ _ noTot noTot 39 rfl rfl rfl rfl k3 rfl (by kernel_rfl) hone.out ?_; intro w7 hbut kr))
  have hbe := hbut.below hb (by omega) hb.size
  have hlv := loadVar_whole (P := Tryd.prog) (ty := 39) _ (At0.of_block kr) Tryd.underlying39 rfl (by kernel_rfl)
  exact bodyPost_ret (v := .tuple #[.agg noTot.toArray, .int .i64 9]) (results_cell_tmpT Tryd.results15 rfl hlv rfl) rfl ⟨rfl, hbe⟩
end Go.Proofs.YtpojhomccmfffaaDoor

/-
  Totals: two as one, where they may be.
-/
namespace Go.Proofs.YtpojhomccmfffaaDoor
open Go.RowKit Flow F
set_option linter.unusedVariables false
set_option linter.unusedSimpArgs false

set_option maxRecDepth 20000 in
set_option maxHeartbeats 8000000 in
theorem merge_ok (x : Ci) (p : Int) (s : ByteArray) (h : TGood x p s) (xs ys : List Int) (A B : Option Addr) (n1 n2 cA cB : Nat) (m1 m2 : Int) (c1 c2 : Nat → Nat) (hm : few m1 m2 = true) (h1 : n1 = x.outN) (h2 : n2 = n1) (hx : ElemsOK xs) (hy : ElemsOK ys) (hxl : xs.length = n1) (hyl : ys.length = n1)
    (l1 : Lim8 c1) (l2 : Lim8 c2) (w : World) (hA : ElemsAt w A xs) (hB : ElemsAt w B ys) :
    Calls Tryd.prog 15 #[totv (.slice A n1 cA) m1 c1, tvl x p s, totv (.slice B n2 cB) m2 c2] w fun e w' => ∃ g, e = .returned (.tuple #[totv (.slice (some ⟨g, 0, none⟩) n1 n1) (m1 + m2) (xorF c1 c2), .int .i64 0]) ∧ Below w.heap.size w w' ∧ w.heap.size ≤ g ∧ Row w' g (List.zipWith (add x.f) xs ys) := by
  have hC := Lib.hid (fun w => tcheck_good h w)
  have hW := Lib.hid (fun w => with_ok c1 c2 l1 l2 w)
  have hD := fun w1 (a : ElemsAt w1 A xs) (b : ElemsAt w1 B ys) => added_ok x p s h.good xs ys A B n1 n2 cA cB m1 m2 c1 c2 h1 h2 hx hy hxl hyl w1 a b
  obtain ⟨j1, j2, j3⟩ := few_of hm
  have b1 : decide (m1 < 0) = false := by simp; omega
  have b2 : decide (m2 < 0) = false := by simp; omega
  have b3 : decide (m1 > 256) = false := by simp; omega
  have b4 : decide (m2 > 256 - m1) = false := by simp; omega
  have i1 : 0 ≤ m1 := by omega
  have i2 : m1 ≤ 256 := by omega
  unfold tvl totv at *
  generalize List.zipWith (add x.f) xs ys = zs at *
  replace hA := Lib.hid hA
  replace hB := Lib.hid hB
  replace hD := Lib.hid hD
  replace h1 := Lib.hid h1
  replace h2 := Lib.hid h2
  replace hxl := Lib.hid hxl
  replace hyl := Lib.hid hyl
  clear h hm hx hy l1 l2
  go_enter Tryd.func15, Tryd.ntmps15
  go_upto_region 1 with (fail)
  refine name_wp (fun w1 => Below w.heap.size w w1 ∧ w1.heap.size = w.heap.size + 4 ∧ w1.heap[w.heap.size]? = some (.cells (tot (.slice A n1 cA) m1 c1).toArray 39 (0, 0)) ∧ w1.heap[w.heap.size + 1]? = some (.cells (tcl x p s).toArray 33 (0, 0)) ∧ w1.heap[w.heap.size + 2]? = some (.cells (tot (.slice B n2 cB) m2 c2).toArray 39 (0, 0)) ∧ w1.heap[w.heap.size + 3]? = some (.cells noTot.toArray 39 (0, 0)))
    ⟨((((Below.refl _ _).alloc (Nat.le_refl _) _).alloc (by simp) _).alloc (by simp; omega) _).alloc (by simp; omega) _, by simp, alloc_keeps (alloc_keeps (alloc_keeps (alloc_at rfl))), alloc_keeps (alloc_keeps (alloc_at (by simp))), alloc_keeps (alloc_at (by simp)), alloc_at (by simp)⟩ ?_
  rintro w1 ⟨hb, hsz, k0, k1, k2, k3⟩
  go_wp2_with (first
    | (refine list_load_mid _ _ _ 0 _ _ rfl rfl rfl (At0.of_block k1) Tryd.underlying33 rfl (by kernel_rfl) ?_))
  refine call_then (hC.out _) ?_
  intro w3 hv
  replace hb := below_next hb (by have := hb.size; omega) hv
  replace k0 := keeps hv k0
  replace k1 := keeps hv k1
  replace k2 := keeps hv k2
  replace k3 := keeps hv k3
  clear hv
  clear hC hsz
  have q1 := At0.of_block k0 1 (.int .i64 m1) rfl
  have q2 := At0.of_block k2 1 (.int .i64 m2) rfl
  simp only [Nat.zero_add] at q1 q2
  have hD2 := fun w4 (hv : Below w3.heap.size w3 w4) => hD.out w4 ((hA.out.up hb).up hv) ((hB.out.up hb).up hv)
  have hsz := hb.size
  replace hD2 := Lib.hid hD2
  clear hA hB hD
  go_wp2_with (first
    | (refine list_load_mid _ _ _ 0 _ _ rfl rfl rfl (At0.of_block k1) Tryd.underlying33 rfl (by kernel_rfl) ?_)
    | (refine list_load_mid _ _ _ 0 _ _ rfl rfl rfl (At0.of_block k0) Tryd.underlying39 rfl (by rw [tot_len]; kernel_rfl) ?_)
    | (refine list_load_mid _ _ _ 0 _ _ rfl rfl rfl (At0.of_block k2) Tryd.underlying39 rfl (by rw [tot_len]; kernel_rfl) ?_))
  refine (hD2.out _ (Below.refl _ _)).mono ?_
  rintro e w4 ⟨g, rfl, hv, hg, hr⟩
  have hg3 := Nat.lt_of_lt_of_le (lt_of_get k3) hg
  replace hb := below_next hb (by have := hb.size; omega) hv
  replace k0 := keeps hv k0
  replace k1 := keeps hv k1
  replace k2 := keeps hv k2
  replace k3 := keeps hv k3
  clear hv
  replace hr := Lib.hid hr
  have hgw : w.heap.size ≤ g := by omega
  clear hD2 q1 q2 b1 b2 b3 b4
  go_wp2
  refine wp_region_flow1 12 (by kernel_rfl) (by kernel_rfl) (by kernel_rfl) ?_
  apply Exists.intro
  refine ⟨fun ι _ φ hφ => ?_, fun w6 hv => ?_⟩
  · have a0 := At0.of_block k0
    have a2 := At0.of_block k2
    have r1 := a0 1 (.int .i64 m1) rfl
    have r2 := a2 1 (.int .i64 m2) rfl
    simp only [Nat.zero_add] at r1 r2
    have e1 := fun i => hφ.cell r1 i
    have e2 := fun i => hφ.cell r2 i
    simp only [List.take_succ_cons, List.take_zero]
    repeat (first
      | (refine quiet_load_mid _ _ _ 2 _ _ rfl rfl rfl (mid_family hφ (sub_range a0 2 _ (tot_chk _ _ _))) Tryd.underlying37 rfl (by rw [arr8_len]; kernel_rfl) ?_; simp only [Act.put, List.setIfInBounds_toArray, List.set_cons_succ, List.set_cons_zero])
      | (refine quiet_load_mid _ _ _ 2 _ _ rfl rfl rfl (mid_family hφ (sub_range a2 2 _ (tot_chk _ _ _))) Tryd.underlying37 rfl (by rw [arr8_len]; kernel_rfl) ?_; simp only [Act.put, List.setIfInBounds_toArray, List.set_cons_succ, List.set_cons_zero])
      | go_big_quiet_step ((go_at_call 17; exact flow_call hφ (hW.out _))))
    refine quiet_build3 _ _ _ _ _ _ _ _ _ _ _ (built_total (some ⟨g, 0, none⟩) n1 n1 (m1 + m2) (xorF c1 c2)) rfl rfl rfl rfl rfl ?_
    simp only [Act.put, List.setIfInBounds_toArray, List.set_cons_succ, List.set_cons_zero]
    exact wpQuiet_nil rfl
  replace hr := hr.out.up hv
  replace hb := below_next hb (by have := hb.size; omega) hv
  replace k0 := keeps hv k0
  replace k1 := keeps hv k1
  replace k2 := keeps hv k2
  replace k3 := keeps hv k3
  clear hv
  have hone := Lib.hid (one_tot (A := some ⟨g, 0, none⟩) (n := n1) (cp := n1) (m1 + m2) (xorF c1 c2))
  simp only [List.drop_succ_cons, List.drop_zero]
  go_wp2_with (first
    | (refine list_store_whole _ _ _ _ (tot (.slice (some ⟨g, 0, none⟩) n1 n1) (m1 + m2) (xorF c1 c2)) noTot 39 rfl rfl rfl rfl k3 rfl (by kernel_rfl) hone.out ?_; intro w7 hbut kr))
  have hbe := hbut.below hb (by omega) hb.size
  have hlv := loadVar_whole (P := Tryd.prog) (ty := 39) _ (At0.of_block kr) Tryd.underlying39 rfl (by kernel_rfl)
  exact bodyPost_ret (v := .tuple #[totv (.slice (some ⟨g, 0, none⟩) n1 n1) (m1 + m2) (xorF c1 c2), .int .i64 0]) (results_cell_tmpT Tryd.results15 rfl hlv rfl) rfl ⟨_, rfl, hbe, hgw, (hbut.block _ (lt_of_get hr) (by omega)).trans hr⟩
end Go.Proofs.YtpojhomccmfffaaDoor

/-
  Totals: a report's share more.
-/
namespace Go.Proofs.YtpojhomccmfffaaDoor
open Go.RowKit Flow F
set_option linter.unusedVariables false
set_option linter.unusedSimpArgs false

set_option maxRecDepth 20000 in
set_option maxHeartbeats 4000000 in
theorem tadd_bad (x : Ci) (p : Int) (s : ByteArray) (A B : Option Addr) (n1 n2 cA cB : Nat) (m1 : Int) (c1 : Nat → Nat) (ns : List Nat) (hns : IdOK ns) (z : Int)
    (hM : ∀ w, Calls Tryd.prog 15 #[totv (.slice A n1 cA) m1 c1, tvl x p s, totv (.slice B n2 cB) 1 (chk ns)] w fun e w' => e = .returned (.tuple #[.agg noTot.toArray, .int .i64 z]) ∧ Below w.heap.size w w') (w : World) (hT : Tabs w) :
    Calls Tryd.prog 25 #[totv (.slice A n1 cA) m1 c1, tvl x p s, .agg (idc ns).toArray, .slice B n2 cB] w fun e w' => e = .returned (.tuple #[.agg noTot.toArray, .int .i64 z]) ∧ Below w.heap.size w w' := by
  unfold tvl totv at *
  have hil := Lib.hid (idc_len hns)
  have hI := Lib.hid (fun w hT => ofId_ok ns hns w hT)
  replace hM := Lib.hid hM
  replace hT := Lib.hid hT
  clear hns
  go_enter Tryd.func25, Tryd.ntmps25
  go_upto_region 1 with (fail)
  refine name_wp (fun w1 => Below w.heap.size w w1 ∧ w1.heap.size = w.heap.size + 4 ∧ w1.heap[w.heap.size]? = some (.cells (tot (.slice A n1 cA) m1 c1).toArray 39 (0, 0)) ∧ w1.heap[w.heap.size + 1]? = some (.cells (tcl x p s).toArray 33 (0, 0)) ∧ w1.heap[w.heap.size + 2]? = some (.cells (idc ns).toArray 51 (0, 0)) ∧ w1.heap[w.heap.size + 3]? = some (.cells noTot.toArray 39 (0, 0)))
    ⟨((((Below.refl _ _).alloc (Nat.le_refl _) _).alloc (by simp) _).alloc (by simp; omega) _).alloc (by simp; omega) _, by simp, alloc_keeps (alloc_keeps (alloc_keeps (alloc_at rfl))), alloc_keeps (alloc_keeps (alloc_at (by simp))), alloc_keeps (alloc_at (by simp)), alloc_at (by simp)⟩ ?_
  rintro w1 ⟨hb, hsz, k0, k1, k2, k3⟩
  have hT1 := hT.out.up hb
  refine wp_region_flow1 9 (by kernel_rfl) (by kernel_rfl) (by kernel_rfl) ?_
  apply Exists.intro
  refine ⟨fun ι _ φ hφ => ?_, fun w6 hv => ?_⟩
  · have hT2 := Lib.hid (fun i => hT1.up (hφ.old i))
    simp only [List.take_succ_cons, List.take_zero]
    iterate 5 (first
      | (refine quiet_load_mid _ _ _ 0 _ _ rfl rfl rfl (mid_family hφ (At0.of_block k0)) Tryd.underlying39 rfl (by rw [tot_len]; kernel_rfl) ?_; simp only [Act.put, List.setIfInBounds_toArray, List.set_cons_succ, List.set_cons_zero])
      | (refine quiet_load_mid _ _ _ 0 _ _ rfl rfl rfl (mid_family hφ (At0.of_block k1)) Tryd.underlying33 rfl (by kernel_rfl) ?_; simp only [Act.put, List.setIfInBounds_toArray, List.set_cons_succ, List.set_cons_zero])
      | (refine quiet_load_mid _ _ _ 0 _ _ rfl rfl rfl (mid_family hφ (At0.of_block k2)) Tryd.underlying51 rfl (by rw [hil.out]; kernel_rfl) ?_; simp only [Act.put, List.setIfInBounds_toArray, List.set_cons_succ, List.set_cons_zero])
      | go_big_quiet_step ((go_at_call 44; exact flow_call hφ (hI.out _ (hT2.out _)))))
    refine quiet_build3 _ _ _ _ _ _ _ _ _ _ _ (built_total B n2 cB 1 (chk ns)) rfl rfl rfl rfl rfl ?_
    simp only [Act.put, List.setIfInBounds_toArray, List.set_cons_succ, List.set_cons_zero]
    repeat (go_big_quiet_step ((go_at_call 15; exact flow_call hφ (hM.out _))))
    exact wpQuiet_nil rfl
  replace k3 := keeps hv k3
  replace hb := below_next hb (by omega) hv
  clear hv
  have hone := Lib.hid (one_tot (A := none) (n := 0) (cp := 0) 0 (fun _ => 0))
  simp only [List.drop_succ_cons, List.drop_zero]
  go_wp2_with (first
    | (refine list_store_whole _ _ _ _ noTot noTot 39 rfl rfl rfl rfl k3 rfl (by kernel_rfl) hone.out ?_; intro w7 hbut kr))
  have hbe := hbut.below hb (by omega) hb.size
  have hlv := loadVar_whole (P := Tryd.prog) (ty := 39) _ (At0.of_block kr) Tryd.underlying39 rfl (by kernel_rfl)
  exact bodyPost_ret (v := .tuple #[.agg noTot.toArray, .int .i64 z]) (results_cell_tmpT Tryd.results25 rfl hlv rfl) rfl ⟨rfl, hbe⟩
theorem flowS_call' {P : Program} {f : FuncId} {args : Array Value} {g : Nat → Prop} {W : World} {ι : Type} {φ : ι → World} {i : ι} {v : Value} (h : FamilyS g W ι φ)
    (hc : Calls P f args (φ i) fun e w' => e = .returned v ∧ Below (φ i).heap.size (φ i) w') : Calls P f args (φ i) fun e w' => e = .returned v ∧ ∃ j, w' = φ j := flowS_call h hc
set_option maxRecDepth 20000 in
set_option maxHeartbeats 4000000 in
theorem tadd_ok (x : Ci) (p : Int) (s : ByteArray) (h : TGood x p s) (xs ys : List Int) (A B : Option Addr) (n1 n2 cA cB : Nat) (m1 : Int) (c1 : Nat → Nat) (ns : List Nat) (hns : IdOK ns) (hm : few m1 1 = true) (h1 : n1 = x.outN) (h2 : n2 = n1) (hx : ElemsOK xs) (hy : ElemsOK ys) (hxl : xs.length = n1) (hyl : ys.length = n1)
    (l1 : Lim8 c1) (l2 : Lim8 (chk ns)) (w : World) (hT : Tabs w) (hA : ElemsAt w A xs) (hB : ElemsAt w B ys) :
    Calls Tryd.prog 25 #[totv (.slice A n1 cA) m1 c1, tvl x p s, .agg (idc ns).toArray, .slice B n2 cB] w fun e w' => ∃ g, e = .returned (.tuple #[totv (.slice (some ⟨g, 0, none⟩) n1 n1) (m1 + 1) (xorF c1 (chk ns)), .int .i64 0]) ∧ Below w.heap.size w w' ∧ w.heap.size ≤ g ∧ Row w' g (List.zipWith (add x.f) xs ys) := by
  have hM := fun (w1 : World) (a : ElemsAt w1 A xs) (b : ElemsAt w1 B ys) => merge_ok x p s h xs ys A B n1 n2 cA cB m1 1 c1 (chk ns) hm h1 h2 hx hy hxl hyl l1 l2 w1 a b
  unfold tvl at *
  unfold totv at hM ⊢
  have hil := Lib.hid (idc_len hns)
  have hI := Lib.hid (fun w hT => ofId_ok ns hns w hT)
  generalize List.zipWith (add x.f) xs ys = zs at *
  replace hM := Lib.hid hM
  replace hA := Lib.hid hA
  replace hB := Lib.hid hB
  replace hT := Lib.hid hT
  replace h1 := Lib.hid h1
  replace h2 := Lib.hid h2
  clear hns h hm hx hy hxl hyl l1 l2
  go_enter Tryd.func25, Tryd.ntmps25
  go_upto_region 1 with (fail)
  refine name_wp (fun w1 => Below w.heap.size w w1 ∧ w1.heap.size = w.heap.size + 4 ∧ w1.heap[w.heap.size]? = some (.cells (tot (.slice A n1 cA) m1 c1).toArray 39 (0, 0)) ∧ w1.heap[w.heap.size + 1]? = some (.cells (tcl x p s).toArray 33 (0, 0)) ∧ w1.heap[w.heap.size + 2]? = some (.cells (idc ns).toArray 51 (0, 0)) ∧ w1.heap[w.heap.size + 3]? = some (.cells noTot.toArray 39 (0, 0)))
    ⟨((((Below.refl _ _).alloc (Nat.le_refl _) _).alloc (by simp) _).alloc (by simp; omega) _).alloc (by simp; omega) _, by simp, alloc_keeps (alloc_keeps (alloc_keeps (alloc_at rfl))), alloc_keeps (alloc_keeps (alloc_at (by simp))), alloc_keeps (alloc_at (by simp)), alloc_at (by simp)⟩ ?_
  rintro w1 ⟨hb, hsz, k0, k1, k2, k3⟩
  have hT1 := hT.out.up hb
  refine segS_start (gb := fun _ => True) 9 (by kernel_rfl) (by decide) ?_
  intro v0 hv
  have hT2 := hT1.up hv
  replace k0 := keeps hv k0
  replace k1 := keeps hv k1
  replace k2 := keeps hv k2
  replace k3 := keeps hv k3
  replace hb := below_next hb (by omega) hv
  clear hv hT1 hT
  refine segS_batch 3 [0, 1, 2, 3, 4, 5] (by kernel_rfl) rfl (by kernel_rfl) (by kernel_rfl) (by kernel_rfl) ?_
  apply Exists.intro
  refine ⟨fun ι _ φ hφ => ?_, fun v1 hv => ?_⟩
  · have hT3 := Lib.hid (fun i => hT2.up ⟨(hφ.old i).os, (hφ.old i).tape, (hφ.old i).output, (hφ.old i).size, fun k hk => (hφ.old i).block k hk trivial⟩)
    iterate 5 (refine pick_step rfl ?_; first
      | (refine quiet_load_mid _ _ _ 0 _ _ rfl rfl rfl (mid_familyT hφ (At0.of_block k0) trivial) Tryd.underlying39 rfl (by rw [tot_len]; kernel_rfl) ?_; simp only [Act.put, List.setIfInBounds_toArray, List.set_cons_succ, List.set_cons_zero])
      | (refine quiet_load_mid _ _ _ 0 _ _ rfl rfl rfl (mid_familyT hφ (At0.of_block k1) trivial) Tryd.underlying33 rfl (by kernel_rfl) ?_; simp only [Act.put, List.setIfInBounds_toArray, List.set_cons_succ, List.set_cons_zero])
      | (refine quiet_load_mid _ _ _ 0 _ _ rfl rfl rfl (mid_familyT hφ (At0.of_block k2) trivial) Tryd.underlying51 rfl (by rw [hil.out]; kernel_rfl) ?_; simp only [Act.put, List.setIfInBounds_toArray, List.set_cons_succ, List.set_cons_zero])
      | go_big_quiet_step ((go_at_call 44; exact flowS_call hφ (hI.out _ (hT3.out _)))))
    refine pick_step rfl ?_
    refine quiet_build3 _ _ _ _ _ _ _ _ _ _ _ (built_total B n2 cB 1 (chk ns)) rfl rfl rfl rfl rfl ?_
    simp only [Act.put, List.setIfInBounds_toArray, List.set_cons_succ, List.set_cons_zero]
    exact pick_end
  replace k3 := keeps hv k3
  replace hb := below_next hb hb.size hv
  clear hv k0 k1 k2 hT2
  refine segS_one 6 _ (by decide) rfl (by kernel_rfl) ?_
  intro v2 K2 hv hK
  replace k3 := keeps hv k3
  replace hb := below_next hb hb.size hv
  clear hv
  have hM2 := Lib.hid (hM.out v2 (hA.out.up hb) (hB.out.up hb))
  replace hK := Lib.hid hK
  go_simp
  refine hM2.out.mono ?_
  rintro e v3 ⟨g, rfl, hv, hg, hr⟩
  refine hK.out _ _ (HeldS.of_below hv) ?_
  have hg3 := Nat.lt_of_lt_of_le (lt_of_get k3) hg
  have hgw : w.heap.size ≤ g := by omega
  replace k3 := keeps hv k3
  replace hb := below_next hb hb.size hv
  clear hv hK hM2 hM K2 hA hB
  refine segS_batch 0 [7, 8] (by kernel_rfl) rfl (by kernel_rfl) (by kernel_rfl) (by kernel_rfl) ?_
  apply Exists.intro
  refine ⟨fun ι _ φ hφ => ?_, fun v1 hv => ?_⟩
  · iterate 2 (refine pick_step rfl ?_; go_big_quiet_step (fail))
    exact pick_end
  replace hr := hr.up hv
  replace k3 := keeps hv k3
  replace hb := below_next hb hb.size hv
  clear hv
  refine segS_tail (by kernel_rfl) ?_
  intro v9 hv
  replace hr := hr.up hv
  replace k3 := keeps hv k3
  replace hb := below_next hb hb.size hv
  clear hv
  have hone := Lib.hid (one_tot (A := some ⟨g, 0, none⟩) (n := n1) (cp := n1) (m1 + 1) (xorF c1 (chk ns)))
  simp only [List.drop_succ_cons, List.drop_zero]
  go_wp2_with (first
    | (refine list_store_whole _ _ _ _ (tot (.slice (some ⟨g, 0, none⟩) n1 n1) (m1 + 1) (xorF c1 (chk ns))) noTot 39 rfl rfl rfl rfl k3 rfl (by kernel_rfl) hone.out ?_; intro w7 hbut kr))
  refine calm_normal ?_
  go_wp2
  have hbe := hbut.below hb (by omega) hb.size
  have hlv := loadVar_whole (P := Tryd.prog) (ty := 39) _ (At0.of_block kr) Tryd.underlying39 rfl (by kernel_rfl)
  exact bodyPost_ret (v := .tuple #[totv (.slice (some ⟨g, 0, none⟩) n1 n1) (m1 + 1) (xorF c1 (chk ns)), .int .i64 0]) (results_cell_tmpT Tryd.results25 rfl hlv rfl) rfl ⟨_, rfl, hbe, hgw, (hbut.block _ (lt_of_get hr) (by omega)).trans hr⟩
end Go.Proofs.YtpojhomccmfffaaDoor
