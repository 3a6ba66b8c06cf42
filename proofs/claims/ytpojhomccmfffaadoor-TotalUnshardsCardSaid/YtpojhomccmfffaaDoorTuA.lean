/-
  Totals made numbers: right ones, of other reports, of more.
-/
import Derived.Test.YtpojhomccmfffaaDoorEG
import Derived.Test.YtpojhomccmfffaaDoorDG
namespace Go.Proofs.YtpojhomccmfffaaDoor
open Go.RowKit Flow F
set_option linter.unusedVariables false
set_option linter.unusedSimpArgs false
attribute [local go_sem] eqlIn_chkC

set_option maxRecDepth 20000 in
set_option maxHeartbeats 4000000 in
theorem unshard_count (x : Ci) (p : Int) (s : ByteArray) (h : TGood x p s) (A B : Option Addr) (n cA cB : Nat) (m1 m2 : Int) (hm : m1 ≠ m2) (c1 c2 : Nat → Nat) (w : World) :
    Calls Tryd.prog 26 #[tvl x p s, totv (.slice A n cA) m1 c1, totv (.slice B n cB) m2 c2] w fun e w' => e = .returned (.tuple #[.slice none 0 0, .int .i64 21]) ∧ Below w.heap.size w w' := by
  have hC := Lib.hid (fun w => tcheck_good h w)
  have hne : (m1 != m2) = true := by simp [hm]
  have hne2 : (m1 == m2) = false := by simp [hm]
  unfold tvl totv at *
  clear h hm
  go_enter Tryd.func26, Tryd.ntmps26
  go_upto_region 1 with (fail)
  refine name_wp (fun w1 => Below w.heap.size w w1 ∧ w1.heap.size = w.heap.size + 3 ∧ w1.heap[w.heap.size]? = some (.cells (tcl x p s).toArray 33 (0, 0)) ∧ w1.heap[w.heap.size + 1]? = some (.cells (tot (.slice A n cA) m1 c1).toArray 39 (0, 0)) ∧ w1.heap[w.heap.size + 2]? = some (.cells (tot (.slice B n cB) m2 c2).toArray 39 (0, 0)))
    ⟨(((Below.refl _ _).alloc (Nat.le_refl _) _).alloc (by simp) _).alloc (by simp; omega) _, by simp, alloc_keeps (alloc_keeps (alloc_at rfl)), alloc_keeps (alloc_at (by simp)), alloc_at (by simp)⟩ ?_
  rintro w1 ⟨hb, hsz, k0, k1, k2⟩
  go_wp2_with (first
    | (refine list_load_mid _ _ _ 0 _ _ rfl rfl rfl (At0.of_block k0) Tryd.underlying33 rfl (by kernel_rfl) ?_))
  refine call_then (hC.out _) ?_
  intro w3 hv
  replace hb := below_next hb (by have := hb.size; omega) hv
  replace k0 := keeps hv k0
  replace k1 := keeps hv k1
  replace k2 := keeps hv k2
  clear hv
  clear hC hsz
  have q1 := At0.of_block k1 1 (.int .i64 m1) rfl
  have q2 := At0.of_block k2 1 (.int .i64 m2) rfl
  simp only [Nat.zero_add] at q1 q2
  clear k0 k1 k2
  go_wp2
  go_ret2
  exact ⟨rfl, hb⟩
set_option maxRecDepth 20000 in
set_option maxHeartbeats 4000000 in
theorem unshard_check (x : Ci) (p : Int) (s : ByteArray) (h : TGood x p s) (A B : Option Addr) (n cA cB : Nat) (m1 m2 : Int) (hm : m1 = m2) (c1 c2 : Nat → Nat) (hc : sameC c1 c2 = false) (w : World) :
    Calls Tryd.prog 26 #[tvl x p s, totv (.slice A n cA) m1 c1, totv (.slice B n cB) m2 c2] w fun e w' => e = .returned (.tuple #[.slice none 0 0, .int .i64 22]) ∧ Below w.heap.size w w' := by
  have hC := Lib.hid (fun w => tcheck_good h w)
  have hne : (m1 != m2) = false := by simp [hm]
  have hne2 : (m1 == m2) = true := by simp [hm]
  unfold tvl totv at *
  clear h hm
  go_enter Tryd.func26, Tryd.ntmps26
  go_upto_region 1 with (fail)
  refine name_wp (fun w1 => Below w.heap.size w w1 ∧ w1.heap.size = w.heap.size + 3 ∧ w1.heap[w.heap.size]? = some (.cells (tcl x p s).toArray 33 (0, 0)) ∧ w1.heap[w.heap.size + 1]? = some (.cells (tot (.slice A n cA) m1 c1).toArray 39 (0, 0)) ∧ w1.heap[w.heap.size + 2]? = some (.cells (tot (.slice B n cB) m2 c2).toArray 39 (0, 0)))
    ⟨(((Below.refl _ _).alloc (Nat.le_refl _) _).alloc (by simp) _).alloc (by simp; omega) _, by simp, alloc_keeps (alloc_keeps (alloc_at rfl)), alloc_keeps (alloc_at (by simp)), alloc_at (by simp)⟩ ?_
  rintro w1 ⟨hb, hsz, k0, k1, k2⟩
  go_wp2_with (first
    | (refine list_load_mid _ _ _ 0 _ _ rfl rfl rfl (At0.of_block k0) Tryd.underlying33 rfl (by kernel_rfl) ?_))
  refine call_then (hC.out _) ?_
  intro w3 hv
  replace hb := below_next hb (by have := hb.size; omega) hv
  replace k0 := keeps hv k0
  replace k1 := keeps hv k1
  replace k2 := keeps hv k2
  clear hv
  clear hC hsz
  have q1 := At0.of_block k1 1 (.int .i64 m1) rfl
  have q2 := At0.of_block k2 1 (.int .i64 m2) rfl
  simp only [Nat.zero_add] at q1 q2
  have r1 := sub_range (At0.of_block k1) 2 _ (tot_chk _ _ _)
  have r2 := sub_range (At0.of_block k2) 2 _ (tot_chk _ _ _)
  clear k0 k1 k2
  go_wp2_with (first
    | (refine list_load_mid _ _ _ 2 _ _ rfl rfl rfl r1 Tryd.underlying37 rfl (by rw [arr8_len]; kernel_rfl) ?_)
    | (refine list_load_mid _ _ _ 2 _ _ rfl rfl rfl r2 Tryd.underlying37 rfl (by rw [arr8_len]; kernel_rfl) ?_))
  go_ret2
  exact ⟨rfl, hb⟩
set_option maxRecDepth 20000 in
set_option maxHeartbeats 4000000 in
theorem unshard_ok (x : Ci) (p : Int) (s : ByteArray) (h : TGood x p s) (xs ys zs : List Int) (A B : Option Addr) (n cA cB : Nat) (m : Nat) (m1 m2 : Int) (hm : m1 = m2) (hm1 : m1 = (m : Int)) (hm2 : m ≤ 256) (c1 c2 : Nat → Nat) (hc : sameC c1 c2 = true) (hn : n = x.outN) (hx : ElemsOK xs) (hy : ElemsOK ys) (hxl : xs.length = n) (hyl : ys.length = n)
    (hz : List.zipWith (add x.f) xs ys = zs) (hle : allLe ((m : Int) * (x.mostN : Int)) zs = true) (w : World) (hA : ElemsAt w A xs) (hB : ElemsAt w B ys) :
    Calls Tryd.prog 26 #[tvl x p s, totv (.slice A n cA) m1 c1, totv (.slice B n cB) m2 c2] w (DecOut zs w) := by
  have hC := Lib.hid (fun w => tcheck_good h w)
  have hD := fun w1 (a : ElemsAt w1 A xs) (b : ElemsAt w1 B ys) => added_ok x p s h.good xs ys A B n n cA cB m1 m2 c1 c2 hn rfl hx hy hxl hyl w1 a b
  rw [hz] at hD
  have hzl : zs.length = n := by rw [← hz, List.length_zipWith, hxl, hyl, Nat.min_self]
  have hzo : ElemsOK zs := by rw [← hz]; exact ElemsOK.zip (fun a b _ _ _ _ => add_bigT a b) hx hy
  have hE := fun (w1 : World) (g : Nat) (r : Row w1 g zs) => dec_sums x zs (some ⟨g, 0, none⟩) n n m h.good hn hzl hm2 hzo w1 r.elems
  simp only [hle, true_and, Bool.true_eq_false, false_and, or_false] at hE
  rw [← hm1] at hE
  have hne : (m1 != m2) = false := by simp [hm]
  have hne2 : (m1 == m2) = true := by simp [hm]
  unfold tvl totv at *
  unfold cvl at hE
  replace hD := Lib.hid hD
  replace hE := Lib.hid hE
  replace hA := Lib.hid hA
  replace hB := Lib.hid hB
  clear h hm hx hy hxl hyl hz hle hzl hzo hm2 hm1 hn
  go_enter Tryd.func26, Tryd.ntmps26
  go_upto_region 1 with (fail)
  refine name_wp (fun w1 => Below w.heap.size w w1 ∧ w1.heap.size = w.heap.size + 3 ∧ w1.heap[w.heap.size]? = some (.cells (tcl x p s).toArray 33 (0, 0)) ∧ w1.heap[w.heap.size + 1]? = some (.cells (tot (.slice A n cA) m1 c1).toArray 39 (0, 0)) ∧ w1.heap[w.heap.size + 2]? = some (.cells (tot (.slice B n cB) m2 c2).toArray 39 (0, 0)))
    ⟨(((Below.refl _ _).alloc (Nat.le_refl _) _).alloc (by simp) _).alloc (by simp; omega) _, by simp, alloc_keeps (alloc_keeps (alloc_at rfl)), alloc_keeps (alloc_at (by simp)), alloc_at (by simp)⟩ ?_
  rintro w1 ⟨hb, hsz, k0, k1, k2⟩
  go_wp2_with (first
    | (refine list_load_mid _ _ _ 0 _ _ rfl rfl rfl (At0.of_block k0) Tryd.underlying33 rfl (by kernel_rfl) ?_))
  refine call_then (hC.out _) ?_
  intro w3 hv
  replace hb := below_next hb (by have := hb.size; omega) hv
  replace k0 := keeps hv k0
  replace k1 := keeps hv k1
  replace k2 := keeps hv k2
  clear hv
  clear hC hsz
  have q1 := At0.of_block k1 1 (.int .i64 m1) rfl
  have q2 := At0.of_block k2 1 (.int .i64 m2) rfl
  simp only [Nat.zero_add] at q1 q2
  have r1 := sub_range (At0.of_block k1) 2 _ (tot_chk _ _ _)
  have r2 := sub_range (At0.of_block k2) 2 _ (tot_chk _ _ _)
  go_wp2_with (first
    | (refine list_load_mid _ _ _ 2 _ _ rfl rfl rfl r1 Tryd.underlying37 rfl (by rw [arr8_len]; kernel_rfl) ?_)
    | (refine list_load_mid _ _ _ 2 _ _ rfl rfl rfl r2 Tryd.underlying37 rfl (by rw [arr8_len]; kernel_rfl) ?_)
    | (refine list_load_mid _ _ _ 0 _ _ rfl rfl rfl (At0.of_block k0) Tryd.underlying33 rfl (by kernel_rfl) ?_)
    | (refine list_load_mid _ _ _ 0 _ _ rfl rfl rfl (At0.of_block k1) Tryd.underlying39 rfl (by rw [tot_len]; kernel_rfl) ?_)
    | (refine list_load_mid _ _ _ 0 _ _ rfl rfl rfl (At0.of_block k2) Tryd.underlying39 rfl (by rw [tot_len]; kernel_rfl) ?_))
  have hbw : Below w.heap.size w w3 := hb
  refine (hD.out _ (hA.out.up hbw) (hB.out.up hbw)).mono ?_
  rintro e w4 ⟨g, rfl, hv, hg, hr⟩
  replace hb := below_next hb (by have := hb.size; omega) hv
  replace k0 := keeps hv k0
  replace k1 := keeps hv k1
  replace k2 := keeps hv k2
  clear hv
  clear hD hA hB q2 r1 r2 k2 hbw
  have q1 := At0.of_block k1 1 (.int .i64 m1) rfl
  simp only [Nat.zero_add] at q1
  have hcm : w4.rangeAt w.heap.size 0 (ccl x) := sub_range (At0.of_block k0) 0 _ (tcl_ccl x p s)
  have hE2 := Lib.hid (hE.out w4 g hr : Calls Tryd.prog 66 #[.agg (ccl x).toArray, .slice (some ⟨g, 0, none⟩) n n, .int .i64 m1] w4 (DecOut zs w4))
  have hsz4 := hb.size
  clear hE k0 k1 hr hg
  go_wp2_with (first
    | (refine list_load_mid _ _ _ 0 _ _ rfl rfl rfl hcm Tryd.underlying31 rfl (by kernel_rfl) ?_))
  refine hE2.out.mono ?_
  rintro e w5 ⟨g5, rfl, hv, hg5, hr5⟩
  replace hb := below_next hb hsz4 hv
  replace hr5 := Lib.hid hr5
  clear hE2 hv hcm q1
  go_wp2
  go_ret2
  exact ⟨g5, rfl, hb, by omega, hr5.out⟩
end Go.Proofs.YtpojhomccmfffaaDoor
