/-
  What is left is too short for a thing.
-/
import Derived.Test.YtdjgkojcckopaaaRlN
import Derived.Test.YtdjgkojcckopaaaRlK
import Derived.Test.YtdjgkojcckopaaaRlM
import Derived.RegionDies
namespace Go.Proofs.Ytdjgkojcckopaaa
open Go.RowKit Flow
set_option linter.unusedVariables false
set_option linter.unusedSimpArgs false

set_option maxHeartbeats 4000000 in
theorem short0 (o r : Nat) (v : Value) (ys : List Int) (k n s : Int) (A : Option Addr) (bs : List Int) (c : Nat) (ss : List Int) (k0 : 0 ≤ k) (hk : k % 6 = 0) (w : World) (h : Rd w o r v false 0) (hv : Lf w o v ys) (hB : ArgBytes w A bs)
    (hS : ∀ w1, Rd w1 o r v false 0 → Lf w1 o v ys → Calls Try.prog 16 #[.pointer (some ⟨r, 0, none⟩), .int .i64 (bs.length : Int)] w1 (Failed w1 o r 3)) :
    Calls Try.prog 12 #[.agg (tcells k n s A bs.length c ss).toArray, .pointer (some ⟨r, 0, none⟩)] w (Failed w o r 3) := by
  have hcv := Lib.hid (fun (w : World) (h : ArgBytes w A bs) => h.conv (P := Try.prog) Try.underlying23 Try.underlying5 Try.underlying9 c)
  replace hS := Lib.hid hS
  go_enter Try.func12, Try.ntmps12
  go_upto_region 1 with (fail)
  refine name_wp (fun w1 => Below w.heap.size w w1 ∧ w1.heap.size = w.heap.size + 1 ∧ Boxed12 w1 w.heap.size k n s A bs.length c ss)
    ⟨(Below.refl _ _).alloc (Nat.le_refl _) _, by simp, boxed_alloc _ _ _ _ _ _ _ _ _⟩ ?_
  rintro w1 ⟨hb1, hz1, hbx⟩
  have hR1 := h.up hb1
  have hL1 := hv.but (But.of_below hb1)
  have hB1 := hB.up hb1
  have ek : k.tmod 6 = k % 6 := Int.tmod_eq_emod_of_nonneg k0
  clear h hv hB
  rw [hk] at ek
  have hR := Lib.hid (hS.out w1.drew (hR1.up (Below.refl _ _).drew) (hL1.but (But.of_below (Below.refl _ _).drew)))
  have hbx3 : Boxed12 w1.drew w.heap.size k n s A bs.length c ss := hbx.up rfl
  obtain ⟨f0, f1, f2, f3, r4⟩ := hbx
  have hbd : Below w.heap.size w w1.drew := hb1.drew
  clear hS hR1 hL1 hb1 hz1 r4
  have hcv1 := hcv.out w1.drew (hB1.up (Below.refl _ _).drew)
  clear hcv hB1
  go_upto_region 3 with (fail)
  clear f0 f1 f2 f3
  obtain ⟨f0, f1, f2, f3, -⟩ := hbx3
  go_region_dies
  all_goals try go_wp2_with fail
  all_goals refine hR.out.mono ?_
  all_goals rintro e w2 ⟨rfl, hb2, hR2⟩
  all_goals try go_wp2
  all_goals exact ⟨rfl, rfl, but_first hbd hb2, hR2⟩
set_option maxHeartbeats 4000000 in
theorem short2 (o r : Nat) (v : Value) (ys : List Int) (k n s : Int) (A : Option Addr) (bs : List Int) (c : Nat) (ss : List Int) (k0 : 0 ≤ k) (hk : k % 6 = 2) (w : World) (h : Rd w o r v false 0) (hv : Lf w o v ys) (hB : ArgBytes w A bs)
    (hS : ∀ w1, Rd w1 o r v false 0 → Lf w1 o v ys → Calls Try.prog 21 #[.pointer (some ⟨r, 0, none⟩), .int .i64 (bs.length : Int)] w1 (Failed w1 o r 3)) :
    Calls Try.prog 12 #[.agg (tcells k n s A bs.length c ss).toArray, .pointer (some ⟨r, 0, none⟩)] w (Failed w o r 3) := by
  have hcv := Lib.hid (fun (w : World) (h : ArgBytes w A bs) => h.conv (P := Try.prog) Try.underlying23 Try.underlying5 Try.underlying9 c)
  replace hS := Lib.hid hS
  go_enter Try.func12, Try.ntmps12
  go_upto_region 1 with (fail)
  refine name_wp (fun w1 => Below w.heap.size w w1 ∧ w1.heap.size = w.heap.size + 1 ∧ Boxed12 w1 w.heap.size k n s A bs.length c ss)
    ⟨(Below.refl _ _).alloc (Nat.le_refl _) _, by simp, boxed_alloc _ _ _ _ _ _ _ _ _⟩ ?_
  rintro w1 ⟨hb1, hz1, hbx⟩
  have hR1 := h.up hb1
  have hL1 := hv.but (But.of_below hb1)
  have hB1 := hB.up hb1
  have ek : k.tmod 6 = k % 6 := Int.tmod_eq_emod_of_nonneg k0
  clear h hv hB
  rw [hk] at ek
  have hR := Lib.hid (hS.out w1.drew (hR1.up (Below.refl _ _).drew) (hL1.but (But.of_below (Below.refl _ _).drew)))
  have hbx3 : Boxed12 w1.drew w.heap.size k n s A bs.length c ss := hbx.up rfl
  obtain ⟨f0, f1, f2, f3, r4⟩ := hbx
  have hbd : Below w.heap.size w w1.drew := hb1.drew
  clear hS hR1 hL1 hb1 hz1 r4
  have hcv1 := hcv.out w1.drew (hB1.up (Below.refl _ _).drew)
  clear hcv hB1
  go_upto_region 11 with (fail)
  clear f0 f1 f2 f3
  obtain ⟨f0, f1, f2, f3, -⟩ := hbx3
  go_region_dies
  all_goals try go_wp2_with fail
  all_goals refine hR.out.mono ?_
  all_goals rintro e w2 ⟨rfl, hb2, hR2⟩
  all_goals try go_wp2
  all_goals exact ⟨rfl, rfl, but_first hbd hb2, hR2⟩
set_option maxHeartbeats 4000000 in
theorem short4 (o r : Nat) (v : Value) (ys : List Int) (k n s : Int) (A : Option Addr) (bs : List Int) (c : Nat) (ss : List Int) (k0 : 0 ≤ k) (hk : k % 6 = 4) (hss : ss.length = 16) (w : World) (h : Rd w o r v false 0) (hv : Lf w o v ys) (hB : ArgBytes w A bs)
    (hS : ∀ w1, Rd w1 o r v false 0 → Lf w1 o v ys → Calls Try.prog 28 #[.pointer (some ⟨r, 0, none⟩)] w1 (Failed w1 o r 3)) :
    Calls Try.prog 12 #[.agg (tcells k n s A bs.length c ss).toArray, .pointer (some ⟨r, 0, none⟩)] w (Failed w o r 3) := by
  obtain ⟨s0, s1, s2, s3, s4, s5, s6, s7, s8, s9, s10, s11, s12, s13, s14, s15, hls⟩ := list16 hss
  replace hls := Lib.hid hls
  replace hS := Lib.hid hS
  go_enter Try.func12, Try.ntmps12
  go_upto_region 1 with (fail)
  refine name_wp (fun w1 => Below w.heap.size w w1 ∧ w1.heap.size = w.heap.size + 1 ∧ Boxed12 w1 w.heap.size k n s A bs.length c ss)
    ⟨(Below.refl _ _).alloc (Nat.le_refl _) _, by simp, boxed_alloc _ _ _ _ _ _ _ _ _⟩ ?_
  rintro w1 ⟨hb1, hz1, hbx⟩
  have hR1 := h.up hb1
  have hL1 := hv.but (But.of_below hb1)
  have hB1 := hB.up hb1
  have ek : k.tmod 6 = k % 6 := Int.tmod_eq_emod_of_nonneg k0
  clear h hv hB
  rw [hk] at ek
  have hR := Lib.hid (hS.out w1.drew (hR1.up (Below.refl _ _).drew) (hL1.but (But.of_below (Below.refl _ _).drew)))
  have hbx3 : Boxed12 w1.drew w.heap.size k n s A bs.length c ss := hbx.up rfl
  obtain ⟨f0, f1, f2, f3, r4⟩ := hbx
  have hbd : Below w.heap.size w w1.drew := hb1.drew
  clear hS hR1 hL1 hb1 hz1 r4
  replace hls := hls.out
  subst hls
  clear hss hB1
  go_upto_region 15 with (fail)
  clear f0 f1 f2 f3
  obtain ⟨f0, f1, f2, f3, -⟩ := id hbx3
  obtain ⟨q0, q1, q2, q3, q4, q5, q6, q7, q8, q9, q10, q11, q12, q13, q14, q15⟩ := cells16 hbx3.r4
  clear hbx3
  go_region_dies
  all_goals try go_wp2_with fail
  all_goals refine hR.out.mono ?_
  all_goals rintro e w2 ⟨rfl, hb2, hR2⟩
  all_goals try go_wp2
  all_goals exact ⟨rfl, rfl, but_first hbd hb2, hR2⟩
set_option maxHeartbeats 4000000 in
theorem short5 (o r : Nat) (v : Value) (ys : List Int) (k n s : Int) (A : Option Addr) (bs : List Int) (c : Nat) (ss : List Int) (k0 : 0 ≤ k) (hk : k % 6 = 5) (hss : ss.length = 16) (w : World) (h : Rd w o r v false 0) (hv : Lf w o v ys) (hB : ArgBytes w A bs)
    (hS : ∀ w1, Rd w1 o r v false 0 → Lf w1 o v ys → Calls Try.prog 29 #[.pointer (some ⟨r, 0, none⟩)] w1 (Failed w1 o r 3)) :
    Calls Try.prog 12 #[.agg (tcells k n s A bs.length c ss).toArray, .pointer (some ⟨r, 0, none⟩)] w (Failed w o r 3) := by
  obtain ⟨s0, s1, s2, s3, s4, s5, s6, s7, s8, s9, s10, s11, s12, s13, s14, s15, hls⟩ := list16 hss
  replace hls := Lib.hid hls
  replace hS := Lib.hid hS
  go_enter Try.func12, Try.ntmps12
  go_upto_region 1 with (fail)
  refine name_wp (fun w1 => Below w.heap.size w w1 ∧ w1.heap.size = w.heap.size + 1 ∧ Boxed12 w1 w.heap.size k n s A bs.length c ss)
    ⟨(Below.refl _ _).alloc (Nat.le_refl _) _, by simp, boxed_alloc _ _ _ _ _ _ _ _ _⟩ ?_
  rintro w1 ⟨hb1, hz1, hbx⟩
  have hR1 := h.up hb1
  have hL1 := hv.but (But.of_below hb1)
  have hB1 := hB.up hb1
  have ek : k.tmod 6 = k % 6 := Int.tmod_eq_emod_of_nonneg k0
  clear h hv hB
  rw [hk] at ek
  have hR := Lib.hid (hS.out w1.drew (hR1.up (Below.refl _ _).drew) (hL1.but (But.of_below (Below.refl _ _).drew)))
  have hbx3 : Boxed12 w1.drew w.heap.size k n s A bs.length c ss := hbx.up rfl
  obtain ⟨f0, f1, f2, f3, r4⟩ := hbx
  have hbd : Below w.heap.size w w1.drew := hb1.drew
  clear hS hR1 hL1 hb1 hz1 r4
  replace hls := hls.out
  subst hls
  clear hss hB1
  go_upto_region 16 with (fail)
  clear f0 f1 f2 f3
  obtain ⟨f0, f1, f2, f3, -⟩ := id hbx3
  obtain ⟨q0, q1, q2, q3, q4, q5, q6, q7, q8, q9, q10, q11, q12, q13, q14, q15⟩ := cells16 hbx3.r4
  clear hbx3
  go_region_dies
  all_goals try go_wp2_with fail
  all_goals refine hR.out.mono ?_
  all_goals rintro e w2 ⟨rfl, hb2, hR2⟩
  all_goals try go_wp2
  all_goals exact ⟨rfl, rfl, but_first hbd hb2, hR2⟩
set_option maxHeartbeats 4000000 in
theorem short3n (o r : Nat) (v : Value) (ys : List Int) (k n s : Int) (ss : List Int) (k0 : 0 ≤ k) (hk : k % 6 = 3) (w : World) (h : Rd w o r v false 0) (hv : Lf w o v ys)
    (hS : ∀ w1, Rd w1 o r v false 0 → Lf w1 o v ys → Calls Try.prog 27 #[.pointer (some ⟨r, 0, none⟩)] w1 (Failed w1 o r 3)) :
    Calls Try.prog 12 #[.agg (tcells k n s none 0 0 ss).toArray, .pointer (some ⟨r, 0, none⟩)] w (Failed w o r 3) := by
  have hcv1 : ∀ w : World, (convert 23 9 (.slice none 0 0)).run Try.prog w = .ok (.string (ByteArray.mk #[])) w := fun w => (show ArgBytes w none [] from ⟨fun _ => rfl, fun ad ha => by cases ha⟩).conv (P := Try.prog) Try.underlying23 Try.underlying5 Try.underlying9 0
  have hB : ArgBytes w none [] := ⟨fun _ => rfl, fun ad ha => by cases ha⟩
  replace hS := Lib.hid hS
  go_enter Try.func12, Try.ntmps12
  go_upto_region 1 with (fail)
  refine name_wp (fun w1 => Below w.heap.size w w1 ∧ w1.heap.size = w.heap.size + 1 ∧ Boxed12 w1 w.heap.size k n s none 0 0 ss)
    ⟨(Below.refl _ _).alloc (Nat.le_refl _) _, by simp, boxed_alloc _ _ _ _ _ _ _ _ _⟩ ?_
  rintro w1 ⟨hb1, hz1, hbx⟩
  have hR1 := h.up hb1
  have hL1 := hv.but (But.of_below hb1)
  have hB1 := hB.up hb1
  have ek : k.tmod 6 = k % 6 := Int.tmod_eq_emod_of_nonneg k0
  clear h hv hB
  rw [hk] at ek
  have hR := Lib.hid (hS.out w1.drew (hR1.up (Below.refl _ _).drew) (hL1.but (But.of_below (Below.refl _ _).drew)))
  have hbx3 : Boxed12 w1.drew w.heap.size k n s none 0 0 ss := hbx.up rfl
  obtain ⟨f0, f1, f2, f3, r4⟩ := hbx
  have hbd : Below w.heap.size w w1.drew := hb1.drew
  clear hS hR1 hL1 hb1 hz1 r4
  clear hB1
  go_upto_region 13 with (fail)
  clear f0 f1 f2 f3
  obtain ⟨f0, f1, f2, f3, -⟩ := hbx3
  go_region_dies
  all_goals try go_wp2_with fail
  all_goals refine hR.out.mono ?_
  all_goals rintro e w2 ⟨rfl, hb2, hR2⟩
  all_goals try go_wp2
  all_goals exact ⟨rfl, rfl, but_first hbd hb2, hR2⟩
set_option maxHeartbeats 4000000 in
theorem short3s (o r : Nat) (v : Value) (ys : List Int) (k n s : Int) (ad : Addr) (bs : List Int) (c : Nat) (ss : List Int) (k0 : 0 ≤ k) (hk : k % 6 = 3) (hcap : bs.length ≤ c) (w : World) (h : Rd w o r v false 0) (hv : Lf w o v ys) (hB : ArgBytes w (some ad) bs)
    (hS : ∀ w1, Rd w1 o r v false 0 → Lf w1 o v ys → Calls Try.prog 27 #[.pointer (some ⟨r, 0, none⟩)] w1 (Failed w1 o r 3)) :
    Calls Try.prog 12 #[.agg (tcells k n s (some ad) bs.length c ss).toArray, .pointer (some ⟨r, 0, none⟩)] w (Failed w o r 3) := by
  have hq : (bs.take 255).length ≤ 255 ∧ (bs.take 255).length ≤ bs.length := by simp; omega
  have hqm : min (bs.length : Int) 255 = ((bs.take 255).length : Int) := by simp; omega
  have hif : (if (255 : Int) < (bs.length : Int) then (255 : Int) else (bs.length : Int)) = ((bs.take 255).length : Int) := by
    simp only [List.length_take]
    split <;> omega
  obtain ⟨Q, hQ⟩ : ∃ Q, (bs.take 255).length = Q := ⟨_, rfl⟩
  have hcv : ∀ (w : World), ArgBytes w (some ad) (bs.take 255) → (convert 23 9 (.slice (some ad) Q c)).run Try.prog w = .ok (.string (strOfNums (bs.take 255))) w := fun w h => by
    have := h.conv (P := Try.prog) Try.underlying23 Try.underlying5 Try.underlying9 c
    rw [hQ] at this
    exact this
  rw [hQ] at hq hqm hif
  obtain ⟨hq1, hq2⟩ := hq
  have j0 : (0 : Int) ≤ (Q : Int) := by omega
  have j1 : (Q : Int) ≤ (c : Int) := by omega
  have j2 : (Q : Int) ≤ 255 := by omega
  have j3 : Q ≤ c := by omega
  replace hcv := Lib.hid hcv
  replace hqm := Lib.hid hqm
  replace hS := Lib.hid hS
  go_enter Try.func12, Try.ntmps12
  go_upto_region 1 with (fail)
  refine name_wp (fun w1 => Below w.heap.size w w1 ∧ w1.heap.size = w.heap.size + 1 ∧ Boxed12 w1 w.heap.size k n s (some ad) bs.length c ss)
    ⟨(Below.refl _ _).alloc (Nat.le_refl _) _, by simp, boxed_alloc _ _ _ _ _ _ _ _ _⟩ ?_
  rintro w1 ⟨hb1, hz1, hbx⟩
  have hR1 := h.up hb1
  have hL1 := hv.but (But.of_below hb1)
  have hB1 := hB.up hb1
  have ek : k.tmod 6 = k % 6 := Int.tmod_eq_emod_of_nonneg k0
  clear h hv hB
  rw [hk] at ek
  have hR := Lib.hid (hS.out w1.drew (hR1.up (Below.refl _ _).drew) (hL1.but (But.of_below (Below.refl _ _).drew)))
  have hbx3 : Boxed12 w1.drew w.heap.size k n s (some ad) bs.length c ss := hbx.up rfl
  obtain ⟨f0, f1, f2, f3, r4⟩ := hbx
  have hbd : Below w.heap.size w w1.drew := hb1.drew
  clear hS hR1 hL1 hb1 hz1 r4
  have hcv1 := hcv.out w1.drew (arg_take 255 (hB1.up (Below.refl _ _).drew))
  clear hQ hcv hB1
  generalize strOfNums (List.take 255 bs) = SS at *
  go_upto_region 13 with (fail)
  clear f0 f1 f2 f3
  obtain ⟨f0, f1, f2, f3, -⟩ := hbx3
  go_region_dies
  all_goals try go_wp2_with fail
  all_goals refine hR.out.mono ?_
  all_goals rintro e w2 ⟨rfl, hb2, hR2⟩
  all_goals try go_wp2
  all_goals exact ⟨rfl, rfl, but_first hbd hb2, hR2⟩
set_option maxHeartbeats 4000000 in
theorem short1 (o r : Nat) (v : Value) (ys : List Int) (k n s : Int) (A : Option Addr) (bs : List Int) (c : Nat) (ss : List Int) (k0 : 0 ≤ k) (hk : k % 6 = 1) (hn : 0 ≤ n ∧ n < 18446744073709551616) (w : World) (h : Rd w o r v false 0) (hv : Lf w o v ys) (hB : ArgBytes w A bs) (hpos : 0 < tsize s)
    (hS : ∀ w1, Rd w1 o r v false 0 → Lf w1 o v ys → Calls Try.prog 26 #[.pointer (some ⟨r, 0, none⟩), .int .i64 s] w1 (Failed w1 o r 3)) :
    Calls Try.prog 12 #[.agg (tcells k n s A bs.length c ss).toArray, .pointer (some ⟨r, 0, none⟩)] w (Failed w o r 3) := by
  have hsk := tsize_is s
  have hs := hsk
  generalize tsize s = K at *
  unfold SizeIs at hs
  have hK8 := hsk.le
  obtain ⟨n0, n1⟩ := hn
  replace hS := Lib.hid hS
  go_enter Try.func12, Try.ntmps12
  go_upto_region 1 with (fail)
  refine name_wp (fun w1 => Below w.heap.size w w1 ∧ w1.heap.size = w.heap.size + 1 ∧ Boxed12 w1 w.heap.size k n s A bs.length c ss)
    ⟨(Below.refl _ _).alloc (Nat.le_refl _) _, by simp, boxed_alloc _ _ _ _ _ _ _ _ _⟩ ?_
  rintro w1 ⟨hb1, hz1, hbx⟩
  have hR1 := h.up hb1
  have hL1 := hv.but (But.of_below hb1)
  have hB1 := hB.up hb1
  have ek : k.tmod 6 = k % 6 := Int.tmod_eq_emod_of_nonneg k0
  clear h hv hB
  rw [hk] at ek
  have hR := Lib.hid (hS.out w1 hR1 hL1)
  obtain ⟨c0, c1, c2, c3, r4⟩ := hbx
  replace n1 := Lib.hid n1
  have k0' : (0 : Int) ≤ (K : Int) := by omega
  have k1' : (K : Int) ≤ 8 := by omega
  clear r4 hsk hS hR1 hL1 hB1 hz1
  by_cases h8 : s < 8
  · obtain rfl : s = (K : Int) := by omega
    have b0 : decide ((K : Int) < 8) = true := by rw [decide_eq_true_eq]; omega
    have b1 : (K : Int) < 8 := by omega
    have b2 : max (K : Int) 0 = (K : Int) := by omega
    have b3 : min (K : Int) 8 = (K : Int) := by omega
    have b4 : ¬ ((8 : Int) < (K : Int)) := by omega
    obtain ⟨D, hD1, hD0⟩ : ∃ D : Int, IntKind.u64.wrap (2 ^ (8 * K)) = D ∧ 0 < D := by
      refine ⟨((2 ^ (8 * K) : Nat) : Int), ?_, by have := Nat.pow_pos (n := 8 * K) (show 0 < 2 by decide); omega⟩
      have hle : (2 : Nat) ^ (8 * K) ≤ 2 ^ 56 := Nat.pow_le_pow_right (by decide) (by omega)
      have e2 : ((2 : Int) ^ (8 * K)) = ((2 ^ (8 * K) : Nat) : Int) := by simp
      rw [e2, IntKind.wrap_u64]
      generalize 2 ^ (8 * K) = T at hle ⊢
      omega
    have hDn : D ≠ 0 := by omega
    have b5 : (0 : Int) ≤ (K : Int) := by omega
    clear hs h8
    go_wp2_with fail
    refine hR.out.mono ?_
    rintro e w2 ⟨rfl, hb2, hR2⟩
    clear hR c0 c1 c2 c3
    go_wp2
    exact ⟨rfl, rfl, but_first hb1 hb2, hR2⟩
  · obtain rfl : K = 8 := by omega
    have b2 : max s 0 = s := by omega
    have b3 : min s 8 = 8 := by omega
    have b4 : 0 ≤ s := by omega
    by_cases h9 : 8 < s
    · go_wp2_with fail
      refine hR.out.mono ?_
      rintro e w2 ⟨rfl, hb2, hR2⟩
      clear hR c0 c1 c2 c3
      go_wp2
      exact ⟨rfl, rfl, but_first hb1 hb2, hR2⟩
    · obtain rfl : s = 8 := by omega
      go_wp2_with fail
      refine hR.out.mono ?_
      rintro e w2 ⟨rfl, hb2, hR2⟩
      clear hR c0 c1 c2 c3
      go_wp2
      exact ⟨rfl, rfl, but_first hb1 hb2, hR2⟩
end Go.Proofs.Ytdjgkojcckopaaa
