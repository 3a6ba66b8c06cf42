/-
  Totals: the sum of two's; two as one.
-/
import Derived.Test.YtpojhomccmfffaaDoorTtE
namespace Go.Proofs.YtpojhomccmfffaaDoor
open Go.RowKit Flow F
set_option linter.unusedVariables false
set_option linter.unusedSimpArgs false

theorem out_le4 {x : Ci} (h : x.Good) : x.outN ≤ 4096 := by
  unfold Ci.outN
  split
  · omega
  · have h1 := h.fits.k1
    have h5 := h.fits.k5
    have := h.fits.l (by omega)
    omega
set_option maxRecDepth 20000 in
set_option maxHeartbeats 4000000 in
theorem added_size (x : Ci) (p : Int) (s : ByteArray) (h : x.Good) (A B : Option Addr) (n1 n2 cA cB : Nat) (m1 m2 : Int) (c1 c2 : Nat → Nat) (h1 : n1 ≤ maxLen) (h2 : n2 ≤ maxLen) (hne : n1 ≠ x.outN ∨ n2 ≠ x.outN) (w : World) :
    Calls Tryd.prog 48 #[tvl x p s, totv (.slice A n1 cA) m1 c1, totv (.slice B n2 cB) m2 c2] w fun e w' => e = .returned (.tuple #[.slice none 0 0, .int .i64 9]) ∧ Below w.heap.size w w' := by
  have hO := Lib.hid (out_any x h)
  unfold tvl totv
  unfold maxLen at h1 h2
  have hle : x.outN ≤ 4096 := out_le4 h
  generalize x.outN = N at *
  have hlt : (N : Int) ≤ 4096 := by omega
  by_cases e1 : n1 = N
  · have b1 : ((n1 : Int) != (N : Int)) = false := by simp; omega
    have b2 : ((n2 : Int) != (N : Int)) = true := by simp; omega
    subst e1
    clear h b1
    go_enter Tryd.func48, Tryd.ntmps48
    go_upto_region 1 with (fail)
    refine name_wp (fun w1 => Below w.heap.size w w1 ∧ w1.heap.size = w.heap.size + 3 ∧ w1.heap[w.heap.size]? = some (.cells (tcl x p s).toArray 33 (0, 0)) ∧ w1.heap[w.heap.size + 1]? = some (.cells (tot (.slice A n1 cA) m1 c1).toArray 39 (0, 0)) ∧ w1.heap[w.heap.size + 2]? = some (.cells (tot (.slice B n2 cB) m2 c2).toArray 39 (0, 0)))
      ⟨(((Below.refl _ _).alloc (Nat.le_refl _) _).alloc (by simp) _).alloc (by simp; omega) _, by simp, alloc_keeps (alloc_keeps (alloc_at rfl)), alloc_keeps (alloc_at (by simp)), alloc_at (by simp)⟩ ?_
    rintro w1 ⟨hb, hsz, k0, k1, k2⟩
    have hcm : w1.rangeAt w.heap.size 0 (ccl x) := sub_range (At0.of_block k0) 0 _ (tcl_ccl x p s)
    have hO2 := Lib.hid (fun w => (hO.out w : Calls Tryd.prog 20 #[.agg (ccl x).toArray] w _))
    clear hO
    go_wp2_with (first
      | (refine list_load_mid _ _ _ 0 _ _ rfl rfl rfl hcm Tryd.underlying31 rfl (by kernel_rfl) ?_))
    refine call_then (hO2.out _) ?_
    intro w3 hv
    replace hb := below_next hb (by omega) hv
    replace k0 := keeps hv k0
    replace k1 := keeps hv k1
    replace k2 := keeps hv k2
    clear hv hO2 hcm hsz
    have s1 := At0.of_block k1 0 (.slice A n1 cA) rfl
    have s2 := At0.of_block k2 0 (.slice B n2 cB) rfl
    have f1 := At0.of_block k0 1 (.int .u8 x.f) rfl
    simp only [Nat.zero_add] at s1 s2 f1
    clear k0 k1 k2
    go_wp2
    go_ret2
    exact ⟨rfl, hb⟩
  · have b1 : ((n1 : Int) != (N : Int)) = true := by simp; omega
    clear h
    go_enter Tryd.func48, Tryd.ntmps48
    go_upto_region 1 with (fail)
    refine name_wp (fun w1 => Below w.heap.size w w1 ∧ w1.heap.size = w.heap.size + 3 ∧ w1.heap[w.heap.size]? = some (.cells (tcl x p s).toArray 33 (0, 0)) ∧ w1.heap[w.heap.size + 1]? = some (.cells (tot (.slice A n1 cA) m1 c1).toArray 39 (0, 0)) ∧ w1.heap[w.heap.size + 2]? = some (.cells (tot (.slice B n2 cB) m2 c2).toArray 39 (0, 0)))
      ⟨(((Below.refl _ _).alloc (Nat.le_refl _) _).alloc (by simp) _).alloc (by simp; omega) _, by simp, alloc_keeps (alloc_keeps (alloc_at rfl)), alloc_keeps (alloc_at (by simp)), alloc_at (by simp)⟩ ?_
    rintro w1 ⟨hb, hsz, k0, k1, k2⟩
    have hcm : w1.rangeAt w.heap.size 0 (ccl x) := sub_range (At0.of_block k0) 0 _ (tcl_ccl x p s)
    have hO2 := Lib.hid (fun w => (hO.out w : Calls Tryd.prog 20 #[.agg (ccl x).toArray] w _))
    clear hO
    go_wp2_with (first
      | (refine list_load_mid _ _ _ 0 _ _ rfl rfl rfl hcm Tryd.underlying31 rfl (by kernel_rfl) ?_))
    refine call_then (hO2.out _) ?_
    intro w3 hv
    replace hb := below_next hb (by omega) hv
    replace k0 := keeps hv k0
    replace k1 := keeps hv k1
    replace k2 := keeps hv k2
    clear hv hO2 hcm hsz
    have s1 := At0.of_block k1 0 (.slice A n1 cA) rfl
    have s2 := At0.of_block k2 0 (.slice B n2 cB) rfl
    have f1 := At0.of_block k0 1 (.int .u8 x.f) rfl
    simp only [Nat.zero_add] at s1 s2 f1
    clear k0 k1 k2
    go_wp2
    go_ret2
    exact ⟨rfl, hb⟩
set_option maxRecDepth 20000 in
set_option maxHeartbeats 4000000 in
theorem added_ok (x : Ci) (p : Int) (s : ByteArray) (h : x.Good) (xs ys : List Int) (A B : Option Addr) (n1 n2 cA cB : Nat) (m1 m2 : Int) (c1 c2 : Nat → Nat) (h1 : n1 = x.outN) (h2 : n2 = n1) (hx : ElemsOK xs) (hy : ElemsOK ys) (hxl : xs.length = n1) (hyl : ys.length = n1) (w : World) (hA : ElemsAt w A xs) (hB : ElemsAt w B ys) :
    Calls Tryd.prog 48 #[tvl x p s, totv (.slice A n1 cA) m1 c1, totv (.slice B n2 cB) m2 c2] w fun e w' => ∃ g, e = .returned (.tuple #[.slice (some ⟨g, 0, none⟩) n1 n1, .int .i64 0]) ∧ Below w.heap.size w w' ∧ w.heap.size ≤ g ∧ Row w' g (List.zipWith (add x.f) xs ys) := by
  have hO := Lib.hid (out_any x h)
  have hle : x.outN ≤ 4096 := out_le4 h
  have fb := fb_of h.f
  have hV := fun (w : World) hA hB => faddvec_any x.f (add x.f) xs ys A B cA cB hx hy (by omega) (hxl.trans hyl.symm) fb.hval fb.hadd w hA hB
  rw [hxl, hyl] at hV
  generalize List.zipWith (add x.f) xs ys = zs at *
  unfold tvl totv
  rw [← h1] at hO hle
  subst h2
  replace hV := Lib.hid hV
  replace hA := Lib.hid hA
  replace hB := Lib.hid hB
  replace hxl := Lib.hid hxl
  replace hyl := Lib.hid hyl
  clear h fb h1 hx hy
  have hlt : (n2 : Int) ≤ 4096 := by omega
  obtain ⟨n1, hn⟩ : ∃ n1, n1 = n2 := ⟨_, rfl⟩
  subst hn
  go_enter Tryd.func48, Tryd.ntmps48
  go_upto_region 1 with (fail)
  refine name_wp (fun w1 => Below w.heap.size w w1 ∧ w1.heap.size = w.heap.size + 3 ∧ w1.heap[w.heap.size]? = some (.cells (tcl x p s).toArray 33 (0, 0)) ∧ w1.heap[w.heap.size + 1]? = some (.cells (tot (.slice A n1 cA) m1 c1).toArray 39 (0, 0)) ∧ w1.heap[w.heap.size + 2]? = some (.cells (tot (.slice B n1 cB) m2 c2).toArray 39 (0, 0)))
    ⟨(((Below.refl _ _).alloc (Nat.le_refl _) _).alloc (by simp) _).alloc (by simp; omega) _, by simp, alloc_keeps (alloc_keeps (alloc_at rfl)), alloc_keeps (alloc_at (by simp)), alloc_at (by simp)⟩ ?_
  rintro w1 ⟨hb, hsz, k0, k1, k2⟩
  have hcm : w1.rangeAt w.heap.size 0 (ccl x) := sub_range (At0.of_block k0) 0 _ (tcl_ccl x p s)
  have hO2 := Lib.hid (fun w => (hO.out w : Calls Tryd.prog 20 #[.agg (ccl x).toArray] w _))
  clear hO
  go_wp2_with (first
    | (refine list_load_mid _ _ _ 0 _ _ rfl rfl rfl hcm Tryd.underlying31 rfl (by kernel_rfl) ?_))
  refine call_then (hO2.out _) ?_
  intro w3 hv
  replace hb := below_next hb (by omega) hv
  replace k0 := keeps hv k0
  replace k1 := keeps hv k1
  replace k2 := keeps hv k2
  clear hv hO2 hcm hsz
  have s1 := At0.of_block k1 0 (.slice A n1 cA) rfl
  have s2 := At0.of_block k2 0 (.slice B n1 cB) rfl
  have f1 := At0.of_block k0 1 (.int .u8 x.f) rfl
  simp only [Nat.zero_add] at s1 s2 f1
  clear k0 k1 k2
  have hV2 := Lib.hid (hV.out w3 (hA.out.up hb) (hB.out.up hb))
  clear hV hA hB
  have hsz := hb.size
  go_wp2_with fail
  refine hV2.out.mono ?_
  rintro e w4 ⟨g, rfl, hv, hg, hr⟩
  replace hb := below_next hb hb.size hv
  replace hr := Lib.hid hr
  clear hV2 hv s1 s2 f1
  go_wp2
  go_ret2
  exact ⟨g, rfl, hb, by omega, hr.out⟩
end Go.Proofs.YtpojhomccmfffaaDoor
