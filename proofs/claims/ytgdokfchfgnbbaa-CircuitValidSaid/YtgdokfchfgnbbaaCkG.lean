/-
  Is a vector right, as the document says?
-/
import Derived.Test.YtgdokfchfgnbbaaCkF
namespace Go.Proofs.Ytgdokfchfgnbbaa
open Go.RowKit Flow F
set_option linter.unusedVariables false
set_option linter.unusedSimpArgs false
attribute [local go_sem] eql_elem

theorem ones_take {xs : List Int} {j L : Nat} (hj : j < xs.length) : ones (xs.take (min (j + 1) L)) = ones (xs.take (min j L)) + if j < L then (xs.getD j 0).toNat else 0 := by
  by_cases h : j < L
  · rw [if_pos h, Nat.min_eq_left (by omega), Nat.min_eq_left (by omega), take_snocD hj, ones_append]
    simp [ones]
  · rw [if_neg h, Nat.min_eq_right (by omega), Nat.min_eq_right (by omega)]
    rfl
set_option maxRecDepth 20000 in
set_option maxHeartbeats 4000000 in
theorem rvalid_rest (x : Ci) (h : x.Good) (h4 : x.k ≠ 4) (h5 : x.k ≠ 5) (xs : List Int) (A : Option Addr) (N cp : Nat) (hl : xs.length = N) (hN : N = x.inN) (hx : InF x.f xs) (w : World) (hA : ElemsAt w A xs) : Calls Try.prog 38 #[rvl x, .slice A N cp] w fun e w' => e = .returned (.bool (validB x xs)) ∧ Below w.heap.size w w' := by
  have hl0 : 0 ≤ x.l := by
    by_cases h3 : 3 ≤ x.k
    · have := h.fits.l h3; omega
    · have := h.fits.l0 h3; omega
  have hz' := h.code
  have hIle := h.fits.in_le
  rw [← hN] at hIle
  obtain ⟨R, hR⟩ : ∃ R, validB x xs = R := ⟨_, rfl⟩
  have hvb := Lib.hid (fun (e : bitsB xs = false) => (hR.symm.trans (by unfold validB; rw [e]; rfl) : R = false))
  have hvt := Lib.hid (fun (e : bitsB xs = true) => (hR.symm.trans (by unfold validB; rw [e, Bool.true_and]) : R = (if x.k = 4 then decide (ones xs = 1) else if x.k = 5 then decide (ones (xs.take x.l.toNat) + offN x.w.toNat = said (xs.drop x.l.toNat)) else true)))
  rw [hR]
  clear hR
  obtain ⟨k, f, b, l, W, c⟩ := x
  have hC := fun w => rcheck_any k f b l W c w
  have hI := fun w => rin_any k f b l W c h.fits w
  unfold rvl at *
  rw [hz'] at hC
  rw [← hN] at hI
  replace hC := Lib.hid hC
  replace hI := Lib.hid hI
  replace hA := Lib.hid hA
  replace hl := Lib.hid hl
  replace hx := Lib.hid hx
  simp only at h4 h5 hvt hl0
  obtain ⟨nl, hnl⟩ := Int.eq_ofNat_of_zero_le hl0
  subst hnl
  have n4 : (k == 4) = false := by simpa using h4
  have n5 : (k == 5) = false := by simpa using h5
  replace hvt := Lib.hid (fun e => (hvt.out e).trans (by rw [if_neg h4, if_neg h5]))
  clear h h4 h5 hz' hN
  go_enter Try.func38, Try.ntmps38
  go_upto_region 1 with (fail)
  refine name_wp (fun w1 => Below w.heap.size w w1 ∧ w1.heap[w.heap.size]? = some (.cells #[.int .i64 k, .int .i64 f, .int .i64 b, .int .i64 (nl : Int), .int .i64 W, .int .i64 c] 32 (0, 0))) ⟨(Below.refl _ _).alloc (Nat.le_refl _) _, alloc_at rfl⟩ ?_
  rintro w1 ⟨hb, k0⟩
  obtain ⟨c0, c1, c2, c3, c4, c5⟩ := blk6 k0
  go_wp2_with fail
  refine call_then (hC.out _) ?_
  intro w2 hb2
  replace hb := below_next hb hb.size hb2
  replace k0 := keeps hb2 k0
  clear hb2 c0 c1 c2 c3 c4 c5
  obtain ⟨c0, c1, c2, c3, c4, c5⟩ := blk6 k0
  go_wp2_with fail
  refine call_then (hI.out _) ?_
  intro w2 hb2
  replace hb := below_next hb hb.size hb2
  replace k0 := keeps hb2 k0
  clear hb2 c0 c1 c2 c3 c4 c5
  obtain ⟨c0, c1, c2, c3, c4, c5⟩ := blk6 k0
  clear hC hI
  go_wp2
  clear c0 c1 c2 c3 c4 c5
  go_loopw [5, 6] (fun s i wr => ∃ j S : Nat, j ≤ N ∧ S ≤ j ∧ i = .int .i64 (j : Int) ∧ s = .int .i64 (S : Int) ∧ Hid (S = ones (xs.take (min j nl))) ∧ Hid (bitsB (xs.take j) = true) ∧ Below w.heap.size w wr ∧ wr.heap[w.heap.size]? = some (.cells #[.int .i64 k, .int .i64 f, .int .i64 b, .int .i64 (nl : Int), .int .i64 W, .int .i64 c] 32 (0, 0))) (fun _ i _ => N - (intOf i).toNat)
  case atStart => exact ⟨0, 0, Nat.zero_le _, Nat.le_refl _, rfl, rfl, Lib.hid (by simp [ones]), Lib.hid rfl, hb, k0⟩
  case round =>
    clear hb k0
    obtain ⟨j, S, hj, hSj, rfl, rfl, hS, hall, hb, k0⟩ := hrel
    obtain ⟨c0, c1, c2, c3, c4, c5⟩ := blk6 k0
    by_cases hlt : j < N
    · have j1 : (j : Int) < (N : Int) := by omega
      have j0 : (0 : Int) ≤ (j : Int) := by omega
      obtain ⟨p, o, rfl, hc0, hc1⟩ := (hA.out.up hb) j (by rw [hl.out]; exact hlt)
      have hz := hx.out.at_ (k := j) (by rw [hl.out]; exact hlt)
      have hsn := Lib.hid (take_snocD (l := xs) (k := j) (by rw [hl.out]; exact hlt))
      have hon := Lib.hid (ones_take (xs := xs) (j := j) (L := nl) (by rw [hl.out]; exact hlt))
      have hbad := Lib.hid (bitsB_of_take (l := xs) (k := j) (by rw [hl.out]; exact hlt))
      generalize xs.getD j 0 = z at *
      replace hz := Lib.hid hz
      by_cases hz0 : z = 0
      · subst hz0
        rw [show lo 0 = 0 by decide] at hc0
        rw [show hi 0 = 0 by decide] at hc1
        have hall2 : Hid (bitsB (xs.take (j + 1)) = true) := Lib.hid (by rw [hsn.out, bitsB_snoc, hall.out]; rfl)
        have hS2 : Hid (S = ones (xs.take (min (j + 1) nl))) := Lib.hid (by rw [hon.out, ← hS.out]; simp)
        by_cases hjl : j < nl
        · have l1 : (j : Int) < (nl : Int) := by omega
          clear hjl
          go_wp2
          exact ⟨⟨j + 1, S, by omega, by omega, by go_num, rfl, hS2, hall2, hb, k0⟩, by simp [intOf]; omega⟩
        · have l1 : ¬ (j : Int) < (nl : Int) := by omega
          clear hjl
          go_wp2
          exact ⟨⟨j + 1, S, by omega, by omega, by go_num, rfl, hS2, hall2, hb, k0⟩, by simp [intOf]; omega⟩
      · by_cases hz1 : z = 1
        · subst hz1
          rw [show lo 1 = 1 by decide] at hc0
          rw [show hi 1 = 0 by decide] at hc1
          have hall2 : Hid (bitsB (xs.take (j + 1)) = true) := Lib.hid (by rw [hsn.out, bitsB_snoc, hall.out]; rfl)
          clear hz0
          by_cases hjl : j < nl
          · have l1 : (j : Int) < (nl : Int) := by omega
            have hS2 : Hid (S + 1 = ones (xs.take (min (j + 1) nl))) := Lib.hid (by rw [hon.out, ← hS.out, if_pos hjl]; rfl)
            clear hjl
            go_wp2
            exact ⟨⟨j + 1, S + 1, by omega, by omega, by go_num, by go_num, hS2, hall2, hb, k0⟩, by simp [intOf]; omega⟩
          · have l1 : ¬ (j : Int) < (nl : Int) := by omega
            have hS2 : Hid (S = ones (xs.take (min (j + 1) nl))) := Lib.hid (by rw [hon.out, ← hS.out, if_neg hjl]; rfl)
            clear hjl
            go_wp2
            exact ⟨⟨j + 1, S, by omega, by omega, by go_num, rfl, hS2, hall2, hb, k0⟩, by simp [intOf]; omega⟩
        · have hvf := Lib.hid (hvb.out (hbad.out hz0 hz1))
          have e0 : (lo z == 0 && hi z == 0) = false := by
            have h1 := val_lohi z
            rw [Bool.and_eq_false_iff]
            by_cases h2 : lo z = 0
            · right; rw [beq_eq_false_iff_ne]; intro h3; rw [h2, h3] at h1; apply hz0; rw [← h1]; rfl
            · left; simpa using h2
          have e1 : (lo z == 1 && hi z == 0) = false := by
            have h1 := val_lohi z
            rw [Bool.and_eq_false_iff]
            by_cases h2 : lo z = 1
            · right; rw [beq_eq_false_iff_ne]; intro h3; rw [h2, h3] at h1; apply hz1; rw [← h1]; rfl
            · left; simpa using h2
          clear hz0 hz1
          go_wp2
          go_ret
          exact ⟨by rw [hvf.out]; rfl, hb⟩
    · obtain rfl : N = j := by omega
      rw [List.take_of_length_le (by rw [hl.out]; exact Nat.le_refl _)] at hall
      have j1 : ¬ (N : Int) < (N : Int) := by omega
      have hvf := Lib.hid (hvt.out hall.out)
      go_wp2
      go_ret
      exact ⟨by rw [hvf.out]; rfl, hb⟩
set_option maxRecDepth 20000 in
set_option maxHeartbeats 4000000 in
theorem rvalid_hist (x : Ci) (h : x.Good) (h4 : x.k = 4) (xs : List Int) (A : Option Addr) (N cp : Nat) (hl : xs.length = N) (hN : N = x.inN) (hx : InF x.f xs) (w : World) (hA : ElemsAt w A xs) : Calls Try.prog 38 #[rvl x, .slice A N cp] w fun e w' => e = .returned (.bool (validB x xs)) ∧ Below w.heap.size w w' := by
  have hL := h.fits.l (by omega)
  have hNl : N = x.l.toNat := by rw [hN]; unfold Ci.inN; rw [if_neg (by omega), if_neg (by omega), if_neg (by omega), if_pos h4]
  have hz' := h.code
  have hIle := h.fits.in_le
  rw [← hN] at hIle
  obtain ⟨R, hR⟩ : ∃ R, validB x xs = R := ⟨_, rfl⟩
  have hvb := Lib.hid (fun (e : bitsB xs = false) => (hR.symm.trans (by unfold validB; rw [e]; rfl) : R = false))
  have hvt := Lib.hid (fun (e : bitsB xs = true) => (hR.symm.trans (by unfold validB; rw [e, Bool.true_and]) : R = (if x.k = 4 then decide (ones xs = 1) else if x.k = 5 then decide (ones (xs.take x.l.toNat) + offN x.w.toNat = said (xs.drop x.l.toNat)) else true)))
  rw [hR]
  clear hR
  obtain ⟨k, f, b, l, W, c⟩ := x
  have hC := fun w => rcheck_any k f b l W c w
  have hI := fun w => rin_any k f b l W c h.fits w
  unfold rvl at *
  rw [hz'] at hC
  rw [← hN] at hI
  replace hC := Lib.hid hC
  replace hI := Lib.hid hI
  replace hA := Lib.hid hA
  replace hl := Lib.hid hl
  replace hx := Lib.hid hx
  simp only at h4 hvt hL hNl
  obtain ⟨nl, hnl⟩ := Int.eq_ofNat_of_zero_le (show 0 ≤ l by omega)
  subst hnl h4
  have hNl2 := Lib.hid (show N = nl by omega)
  replace hvt := Lib.hid (fun e => (hvt.out e).trans (by rw [if_pos rfl]))
  clear h hz' hN hNl
  go_enter Try.func38, Try.ntmps38
  go_upto_region 1 with (fail)
  refine name_wp (fun w1 => Below w.heap.size w w1 ∧ w1.heap[w.heap.size]? = some (.cells #[.int .i64 4, .int .i64 f, .int .i64 b, .int .i64 (nl : Int), .int .i64 W, .int .i64 c] 32 (0, 0))) ⟨(Below.refl _ _).alloc (Nat.le_refl _) _, alloc_at rfl⟩ ?_
  rintro w1 ⟨hb, k0⟩
  obtain ⟨c0, c1, c2, c3, c4, c5⟩ := blk6 k0
  go_wp2_with fail
  refine call_then (hC.out _) ?_
  intro w2 hb2
  replace hb := below_next hb hb.size hb2
  replace k0 := keeps hb2 k0
  clear hb2 c0 c1 c2 c3 c4 c5
  obtain ⟨c0, c1, c2, c3, c4, c5⟩ := blk6 k0
  go_wp2_with fail
  refine call_then (hI.out _) ?_
  intro w2 hb2
  replace hb := below_next hb hb.size hb2
  replace k0 := keeps hb2 k0
  clear hb2 c0 c1 c2 c3 c4 c5
  obtain ⟨c0, c1, c2, c3, c4, c5⟩ := blk6 k0
  clear hC hI
  go_wp2
  clear c0 c1 c2 c3 c4 c5
  go_loopw [5, 6] (fun s i wr => ∃ j S : Nat, j ≤ N ∧ S ≤ j ∧ i = .int .i64 (j : Int) ∧ s = .int .i64 (S : Int) ∧ Hid (S = ones (xs.take (min j nl))) ∧ Hid (bitsB (xs.take j) = true) ∧ Below w.heap.size w wr ∧ wr.heap[w.heap.size]? = some (.cells #[.int .i64 4, .int .i64 f, .int .i64 b, .int .i64 (nl : Int), .int .i64 W, .int .i64 c] 32 (0, 0))) (fun _ i _ => N - (intOf i).toNat)
  case atStart => exact ⟨0, 0, Nat.zero_le _, Nat.le_refl _, rfl, rfl, Lib.hid (by simp [ones]), Lib.hid rfl, hb, k0⟩
  case round =>
    clear hb k0
    obtain ⟨j, S, hj, hSj, rfl, rfl, hS, hall, hb, k0⟩ := hrel
    obtain ⟨c0, c1, c2, c3, c4, c5⟩ := blk6 k0
    by_cases hlt : j < N
    · have j1 : (j : Int) < (N : Int) := by omega
      have j0 : (0 : Int) ≤ (j : Int) := by omega
      obtain ⟨p, o, rfl, hc0, hc1⟩ := (hA.out.up hb) j (by rw [hl.out]; exact hlt)
      have hz := hx.out.at_ (k := j) (by rw [hl.out]; exact hlt)
      have hsn := Lib.hid (take_snocD (l := xs) (k := j) (by rw [hl.out]; exact hlt))
      have hon := Lib.hid (ones_take (xs := xs) (j := j) (L := nl) (by rw [hl.out]; exact hlt))
      have hbad := Lib.hid (bitsB_of_take (l := xs) (k := j) (by rw [hl.out]; exact hlt))
      generalize xs.getD j 0 = z at *
      replace hz := Lib.hid hz
      by_cases hz0 : z = 0
      · subst hz0
        rw [show lo 0 = 0 by decide] at hc0
        rw [show hi 0 = 0 by decide] at hc1
        have hall2 : Hid (bitsB (xs.take (j + 1)) = true) := Lib.hid (by rw [hsn.out, bitsB_snoc, hall.out]; rfl)
        have hS2 : Hid (S = ones (xs.take (min (j + 1) nl))) := Lib.hid (by rw [hon.out, ← hS.out]; simp)
        by_cases hjl : j < nl
        · have l1 : (j : Int) < (nl : Int) := by omega
          clear hjl
          go_wp2
          exact ⟨⟨j + 1, S, by omega, by omega, by go_num, rfl, hS2, hall2, hb, k0⟩, by simp [intOf]; omega⟩
        · have l1 : ¬ (j : Int) < (nl : Int) := by omega
          clear hjl
          go_wp2
          exact ⟨⟨j + 1, S, by omega, by omega, by go_num, rfl, hS2, hall2, hb, k0⟩, by simp [intOf]; omega⟩
      · by_cases hz1 : z = 1
        · subst hz1
          rw [show lo 1 = 1 by decide] at hc0
          rw [show hi 1 = 0 by decide] at hc1
          have hall2 : Hid (bitsB (xs.take (j + 1)) = true) := Lib.hid (by rw [hsn.out, bitsB_snoc, hall.out]; rfl)
          clear hz0
          by_cases hjl : j < nl
          · have l1 : (j : Int) < (nl : Int) := by omega
            have hS2 : Hid (S + 1 = ones (xs.take (min (j + 1) nl))) := Lib.hid (by rw [hon.out, ← hS.out, if_pos hjl]; rfl)
            clear hjl
            go_wp2
            exact ⟨⟨j + 1, S + 1, by omega, by omega, by go_num, by go_num, hS2, hall2, hb, k0⟩, by simp [intOf]; omega⟩
          · have l1 : ¬ (j : Int) < (nl : Int) := by omega
            have hS2 : Hid (S = ones (xs.take (min (j + 1) nl))) := Lib.hid (by rw [hon.out, ← hS.out, if_neg hjl]; rfl)
            clear hjl
            go_wp2
            exact ⟨⟨j + 1, S, by omega, by omega, by go_num, rfl, hS2, hall2, hb, k0⟩, by simp [intOf]; omega⟩
        · have hvf := Lib.hid (hvb.out (hbad.out hz0 hz1))
          have e0 : (lo z == 0 && hi z == 0) = false := by
            have h1 := val_lohi z
            rw [Bool.and_eq_false_iff]
            by_cases h2 : lo z = 0
            · right; rw [beq_eq_false_iff_ne]; intro h3; rw [h2, h3] at h1; apply hz0; rw [← h1]; rfl
            · left; simpa using h2
          have e1 : (lo z == 1 && hi z == 0) = false := by
            have h1 := val_lohi z
            rw [Bool.and_eq_false_iff]
            by_cases h2 : lo z = 1
            · right; rw [beq_eq_false_iff_ne]; intro h3; rw [h2, h3] at h1; apply hz1; rw [← h1]; rfl
            · left; simpa using h2
          clear hz0 hz1
          go_wp2
          go_ret
          exact ⟨by rw [hvf.out]; rfl, hb⟩
    · obtain rfl : N = j := by omega
      rw [List.take_of_length_le (by rw [hl.out]; exact Nat.le_refl _)] at hall
      have j1 : ¬ (N : Int) < (N : Int) := by omega
      have hvf := Lib.hid (hvt.out hall.out)
      have hS2 : S = ones xs := by rw [hS.out, List.take_of_length_le (by rw [hl.out]; have := hNl2.out; omega)]
      rw [← hS2] at hvf
      by_cases h1 : S = 1
      · have b1 : ((S : Int) == 1) = true := by simp; omega
        have hv2 := Lib.hid (hvf.out.trans (decide_eq_true h1))
        clear h1 hS2
        go_wp2
        go_ret
        exact ⟨by rw [hv2.out]; rfl, hb⟩
      · have b1 : ((S : Int) == 1) = false := by simp; omega
        have hv2 := Lib.hid (hvf.out.trans (decide_eq_false h1))
        clear h1 hS2
        go_wp2
        go_ret
        exact ⟨by rw [hv2.out]; rfl, hb⟩
theorem said_take {xs : List Int} {L t : Nat} (h : L + t < xs.length) : said ((xs.drop L).take (t + 1)) = said ((xs.drop L).take t) + (xs.getD (L + t) 0).toNat * 2 ^ t := by
  have h1 : t < (xs.drop L).length := by rw [List.length_drop]; omega
  rw [take_snocD h1, said_snoc, List.length_take, Nat.min_eq_left (by omega)]
  congr 3
  rw [List.getD_eq_getElem?_getD, List.getD_eq_getElem?_getD, List.getElem?_drop]
set_option maxRecDepth 20000 in
set_option maxHeartbeats 4000000 in
theorem rvalid_multi (x : Ci) (h : x.Good) (h5 : x.k = 5) (xs : List Int) (A : Option Addr) (N cp : Nat) (hl : xs.length = N) (hN : N = x.inN) (hx : InF x.f xs) (w : World) (hA : ElemsAt w A xs) : Calls Try.prog 38 #[rvl x, .slice A N cp] w fun e w' => e = .returned (.bool (validB x xs)) ∧ Below w.heap.size w w' := by
  have hL := h.fits.l (by omega)
  have hW := h.fits.w h5
  obtain ⟨nW, hnW⟩ := Int.eq_ofNat_of_zero_le (show 0 ≤ x.w by omega)
  have hNe : N = x.l.toNat + Lib.bitLen nW := by rw [hN]; unfold Ci.inN; rw [if_neg (by omega), if_neg (by omega), if_neg (by omega), if_neg (by omega), hnW]; simp
  have hbl := bl_le (W := nW) (by omega)
  have hole := offN_le (W := nW) (by omega)
  have hz' := h.code
  have hIle := h.fits.in_le
  rw [← hN] at hIle
  obtain ⟨R, hR⟩ : ∃ R, validB x xs = R := ⟨_, rfl⟩
  have hvb := Lib.hid (fun (e : bitsB xs = false) => (hR.symm.trans (by unfold validB; rw [e]; rfl) : R = false))
  have hvt := Lib.hid (fun (e : bitsB xs = true) => (hR.symm.trans (by unfold validB; rw [e, Bool.true_and]) : R = (if x.k = 4 then decide (ones xs = 1) else if x.k = 5 then decide (ones (xs.take x.l.toNat) + offN x.w.toNat = said (xs.drop x.l.toNat)) else true)))
  rw [hR]
  clear hR
  obtain ⟨k, f, b, l, W, c⟩ := x
  have hC := fun w => rcheck_any k f b l W c w
  have hI := fun w => rin_any k f b l W c h.fits w
  unfold rvl at *
  rw [hz'] at hC
  rw [← hN] at hI
  replace hC := Lib.hid hC
  replace hI := Lib.hid hI
  replace hA := Lib.hid hA
  replace hl := Lib.hid hl
  replace hx := Lib.hid hx
  simp only at h5 hvt hL hNe hW hnW
  obtain ⟨nl, hnl⟩ := Int.eq_ofNat_of_zero_le (show 0 ≤ l by omega)
  subst hnl h5 hnW
  simp only [Int.toNat_natCast] at hvt hNe
  have hof := Lib.hid (fun w => roffset_any 5 f b (nl : Int) c nW (by omega) w)
  replace hvt := Lib.hid (fun (e : bitsB xs = true) => ((hvt.out e).trans (by rw [if_neg (by omega), if_pos trivial]) : R = decide (ones (xs.take nl) + offN nW = said (xs.drop nl))))
  obtain ⟨O, hO⟩ : ∃ O, offN nW = O := ⟨_, rfl⟩
  rw [hO] at hole hof hvt
  clear hO
  have hNL : nl ≤ N := by omega
  have hN7 : N ≤ nl + 7 := by omega
  clear h hz' hN hNe hbl
  go_enter Try.func38, Try.ntmps38
  go_upto_region 1 with (fail)
  refine name_wp (fun w1 => Below w.heap.size w w1 ∧ w1.heap[w.heap.size]? = some (.cells #[.int .i64 5, .int .i64 f, .int .i64 b, .int .i64 (nl : Int), .int .i64 (nW : Int), .int .i64 c] 32 (0, 0))) ⟨(Below.refl _ _).alloc (Nat.le_refl _) _, alloc_at rfl⟩ ?_
  rintro w1 ⟨hb, k0⟩
  obtain ⟨c0, c1, c2, c3, c4, c5⟩ := blk6 k0
  go_wp2_with fail
  refine call_then (hC.out _) ?_
  intro w2 hb2
  replace hb := below_next hb hb.size hb2
  replace k0 := keeps hb2 k0
  clear hb2 c0 c1 c2 c3 c4 c5
  obtain ⟨c0, c1, c2, c3, c4, c5⟩ := blk6 k0
  go_wp2_with fail
  refine call_then (hI.out _) ?_
  intro w2 hb2
  replace hb := below_next hb hb.size hb2
  replace k0 := keeps hb2 k0
  clear hb2 c0 c1 c2 c3 c4 c5
  obtain ⟨c0, c1, c2, c3, c4, c5⟩ := blk6 k0
  clear hC hI
  go_wp2
  clear c0 c1 c2 c3 c4 c5
  go_loopw [5, 6] (fun s i wr => ∃ j S : Nat, j ≤ N ∧ S ≤ j ∧ i = .int .i64 (j : Int) ∧ s = .int .i64 (S : Int) ∧ Hid (S = ones (xs.take (min j nl))) ∧ Hid (bitsB (xs.take j) = true) ∧ Below w.heap.size w wr ∧ wr.heap[w.heap.size]? = some (.cells #[.int .i64 5, .int .i64 f, .int .i64 b, .int .i64 (nl : Int), .int .i64 (nW : Int), .int .i64 c] 32 (0, 0))) (fun _ i _ => N - (intOf i).toNat)
  case atStart => exact ⟨0, 0, Nat.zero_le _, Nat.le_refl _, rfl, rfl, Lib.hid (by simp [ones]), Lib.hid rfl, hb, k0⟩
  case round =>
    clear hb k0
    obtain ⟨j, S, hj, hSj, rfl, rfl, hS, hall, hb, k0⟩ := hrel
    obtain ⟨c0, c1, c2, c3, c4, c5⟩ := blk6 k0
    by_cases hlt : j < N
    · have j1 : (j : Int) < (N : Int) := by omega
      have j0 : (0 : Int) ≤ (j : Int) := by omega
      obtain ⟨p, o, rfl, hc0, hc1⟩ := (hA.out.up hb) j (by rw [hl.out]; exact hlt)
      have hz := hx.out.at_ (k := j) (by rw [hl.out]; exact hlt)
      have hsn := Lib.hid (take_snocD (l := xs) (k := j) (by rw [hl.out]; exact hlt))
      have hon := Lib.hid (ones_take (xs := xs) (j := j) (L := nl) (by rw [hl.out]; exact hlt))
      have hbad := Lib.hid (bitsB_of_take (l := xs) (k := j) (by rw [hl.out]; exact hlt))
      generalize xs.getD j 0 = z at *
      replace hz := Lib.hid hz
      by_cases hz0 : z = 0
      · subst hz0
        rw [show lo 0 = 0 by decide] at hc0
        rw [show hi 0 = 0 by decide] at hc1
        have hall2 : Hid (bitsB (xs.take (j + 1)) = true) := Lib.hid (by rw [hsn.out, bitsB_snoc, hall.out]; rfl)
        have hS2 : Hid (S = ones (xs.take (min (j + 1) nl))) := Lib.hid (by rw [hon.out, ← hS.out]; simp)
        by_cases hjl : j < nl
        · have l1 : (j : Int) < (nl : Int) := by omega
          clear hjl
          go_wp2
          exact ⟨⟨j + 1, S, by omega, by omega, by go_num, rfl, hS2, hall2, hb, k0⟩, by simp [intOf]; omega⟩
        · have l1 : ¬ (j : Int) < (nl : Int) := by omega
          clear hjl
          go_wp2
          exact ⟨⟨j + 1, S, by omega, by omega, by go_num, rfl, hS2, hall2, hb, k0⟩, by simp [intOf]; omega⟩
      · by_cases hz1 : z = 1
        · subst hz1
          rw [show lo 1 = 1 by decide] at hc0
          rw [show hi 1 = 0 by decide] at hc1
          have hall2 : Hid (bitsB (xs.take (j + 1)) = true) := Lib.hid (by rw [hsn.out, bitsB_snoc, hall.out]; rfl)
          clear hz0
          by_cases hjl : j < nl
          · have l1 : (j : Int) < (nl : Int) := by omega
            have hS2 : Hid (S + 1 = ones (xs.take (min (j + 1) nl))) := Lib.hid (by rw [hon.out, ← hS.out, if_pos hjl]; rfl)
            clear hjl
            go_wp2
            exact ⟨⟨j + 1, S + 1, by omega, by omega, by go_num, by go_num, hS2, hall2, hb, k0⟩, by simp [intOf]; omega⟩
          · have l1 : ¬ (j : Int) < (nl : Int) := by omega
            have hS2 : Hid (S = ones (xs.take (min (j + 1) nl))) := Lib.hid (by rw [hon.out, ← hS.out, if_neg hjl]; rfl)
            clear hjl
            go_wp2
            exact ⟨⟨j + 1, S, by omega, by omega, by go_num, rfl, hS2, hall2, hb, k0⟩, by simp [intOf]; omega⟩
        · have hvf := Lib.hid (hvb.out (hbad.out hz0 hz1))
          have e0 : (lo z == 0 && hi z == 0) = false := by
            have h1 := val_lohi z
            rw [Bool.and_eq_false_iff]
            by_cases h2 : lo z = 0
            · right; rw [beq_eq_false_iff_ne]; intro h3; rw [h2, h3] at h1; apply hz0; rw [← h1]; rfl
            · left; simpa using h2
          have e1 : (lo z == 1 && hi z == 0) = false := by
            have h1 := val_lohi z
            rw [Bool.and_eq_false_iff]
            by_cases h2 : lo z = 1
            · right; rw [beq_eq_false_iff_ne]; intro h3; rw [h2, h3] at h1; apply hz1; rw [← h1]; rfl
            · left; simpa using h2
          clear hz0 hz1
          go_wp2
          go_ret
          exact ⟨by rw [hvf.out]; rfl, hb⟩
    · obtain rfl : N = j := by omega
      rw [List.take_of_length_le (by rw [hl.out]; exact Nat.le_refl _)] at hall
      have j1 : ¬ (N : Int) < (N : Int) := by omega
      have hvf := hvt.out hall.out
      have hS2 : S = ones (xs.take nl) := by rw [hS.out, Nat.min_eq_right hNL]
      rw [← hS2] at hvf
      replace hvf := Lib.hid hvf
      have hSn : S ≤ 100 := by
        rw [hS2]
        have := ones_le (bitsB_take hall.out nl)
        rw [List.length_take] at this
        omega
      clear hS2
      go_wp2
      clear c0 c1 c2 c3 c4 c5
      go_loopw [9, 7, 8] (fun i n p wr => ∃ t V P : Nat, nl + t ≤ N ∧ V < P ∧ P ≤ 128 ∧ Hid (P = 2 ^ t) ∧ Hid (V = said ((xs.drop nl).take t)) ∧ i = .int .i64 ((nl + t : Nat) : Int) ∧ n = .int .i64 (V : Int) ∧ p = .int .i64 (P : Int) ∧ Below w.heap.size w wr ∧ wr.heap[w.heap.size]? = some (.cells #[.int .i64 5, .int .i64 f, .int .i64 b, .int .i64 (nl : Int), .int .i64 (nW : Int), .int .i64 c] 32 (0, 0))) (fun i _ _ _ => N - (intOf i).toNat)
      case atStart => exact ⟨0, 0, 1, by omega, by omega, by omega, Lib.hid rfl, Lib.hid (by simp [said]), by rw [Nat.add_zero], rfl, rfl, hb, k0⟩
      case round =>
        clear hb k0
        obtain ⟨t, V, P, ht, hVP, hP1, hP, hV, rfl, rfl, rfl, hb, k0⟩ := hrel
        obtain ⟨c0, c1, c2, c3, c4, c5⟩ := blk6 k0
        obtain ⟨q, hq⟩ : ∃ q, nl + t = q := ⟨_, rfl⟩
        rw [hq]
        by_cases hltq : q < N
        · have e1 : (q : Int) < (N : Int) := by omega
          have e0 : (0 : Int) ≤ (q : Int) := by omega
          obtain ⟨p, o, rfl, hc0, hc1⟩ := (hA.out.up hb) q (by rw [hl.out]; exact hltq)
          have hbit : xs.getD q 0 = 0 ∨ xs.getD q 0 = 1 := by
            have := hall.out
            unfold bitsB at this
            rw [List.all_eq_true] at this
            rw [List.getD_eq_getElem?_getD, List.getElem?_eq_getElem (by rw [hl.out]; exact hltq)]
            simpa using this _ (List.getElem_mem _)
          have hsd := said_take (xs := xs) (L := nl) (t := t) (by rw [hq, hl.out]; exact hltq)
          rw [hq, ← hP.out, ← hV.out] at hsd
          have hPP : P * 2 ≤ 128 := by
            have h9 : 2 ^ (t + 1) ≤ 2 ^ 7 := Nat.pow_le_pow_right (by omega) (by omega)
            rw [Nat.pow_succ, ← hP.out] at h9
            omega
          have hP2 : Hid (P * 2 = 2 ^ (t + 1)) := Lib.hid (by rw [Nat.pow_succ, ← hP.out])
          have hq1 : ((nl + (t + 1) : Nat) : Int) = (q : Int) + 1 := by omega
          generalize xs.getD q 0 = z at *
          rcases hbit with rfl | rfl
          · rw [show lo 0 = 0 by decide] at hc0
            have hV2 : Hid (V = said ((xs.drop nl).take (t + 1))) := Lib.hid (by rw [hsd]; simp)
            clear hsd hc1
            replace hq := Lib.hid hq
            go_wp2
            exact ⟨⟨t + 1, V, P * 2, by have := hq.out; omega, by omega, hPP, hP2, hV2, by rw [hq1], by go_num, by go_num, hb, k0⟩, by simp [intOf]; omega⟩
          · rw [show lo 1 = 1 by decide] at hc0
            have hV2 : Hid (V + P = said ((xs.drop nl).take (t + 1))) := Lib.hid (by rw [hsd]; simp)
            clear hsd hc1
            replace hq := Lib.hid hq
            go_wp2
            exact ⟨⟨t + 1, V + P, P * 2, by have := hq.out; omega, by omega, hPP, hP2, hV2, by rw [hq1], by go_num, by go_num, hb, k0⟩, by simp [intOf]; omega⟩
        · obtain rfl : N = q := by omega
          have e1 : ¬ (N : Int) < (N : Int) := by omega
          have hVs : V = said (xs.drop nl) := by rw [hV.out, List.take_of_length_le (by rw [List.length_drop, hl.out]; omega)]
          rw [← hVs] at hvf
          clear hVs
          replace hq := Lib.hid hq
          obtain ⟨U, hU⟩ : ∃ U, S + O = U := ⟨_, rfl⟩
          have zU : (S : Int) + (O : Int) = (U : Int) := by omega
          have zU2 : IntKind.i64.wrap ((S : Int) + (O : Int)) = (U : Int) := wrap_i (by omega) (by omega)
          rw [hU] at hvf
          replace hU := Lib.hid hU
          by_cases hUV : U = V
          · have b1 : ((U : Int) == (V : Int)) = true := by simp; omega
            have hv2 := Lib.hid (hvf.out.trans (decide_eq_true hUV))
            clear hUV
            go_wp2_with fail
            refine call_then (hof.out _) ?_
            intro w9 hv
            replace hb := below_next hb hb.size hv
            clear hv c0 c1 c2 c3 c4 c5
            go_wp2
            go_ret
            exact ⟨by rw [hv2.out]; rfl, hb⟩
          · have b1 : ((U : Int) == (V : Int)) = false := by simp; omega
            have hv2 := Lib.hid (hvf.out.trans (decide_eq_false hUV))
            clear hUV
            go_wp2_with fail
            refine call_then (hof.out _) ?_
            intro w9 hv
            replace hb := below_next hb hb.size hv
            clear hv c0 c1 c2 c3 c4 c5
            go_wp2
            go_ret
            exact ⟨by rw [hv2.out]; rfl, hb⟩
theorem rvalid_ok (x : Ci) (h : x.Good) (xs : List Int) (A : Option Addr) (N cp : Nat) (hl : xs.length = N) (hN : N = x.inN) (hx : InF x.f xs) (w : World) (hA : ElemsAt w A xs) : Calls Try.prog 38 #[rvl x, .slice A N cp] w fun e w' => e = .returned (.bool (validB x xs)) ∧ Below w.heap.size w w' := by
  by_cases h4 : x.k = 4
  · exact rvalid_hist x h h4 xs A N cp hl hN hx w hA
  · by_cases h5 : x.k = 5
    · exact rvalid_multi x h h5 xs A N cp hl hN hx w hA
    · exact rvalid_rest x h h4 h5 xs A N cp hl hN hx w hA
end Go.Proofs.Ytgdokfchfgnbbaa
