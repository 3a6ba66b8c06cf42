/-
  The document's circuits: Check, of field 2.
-/
import Derived.Test.YtebgfelbffgnbaaGreatDoorDA
namespace Go.Proofs.YtebgfelbffgnbaaGreatDoor
open Go.RowKit Flow
set_option linter.unusedVariables false
set_option linter.unusedSimpArgs false

theorem rcheck_1_2 (b l W c : Int) (w : World) : Calls Tryz.prog 46 #[.agg #[.int .i64 1, .int .i64 2, .int .i64 b, .int .i64 l, .int .i64 W, .int .i64 c]] w fun e w' => e = .returned (.int .i64 ((Ci.mk 1 2 b l W c).code)) ∧ Below w.heap.size w w' := by
  have hB := fun w => used_any b 32 false w
  have hL := fun w => used_any l 64 false w
  have hW := fun w => used_any W l false w
  have hC := fun w => used_any c 16 false w
  have hfit : (Ci.mk 1 2 b l W c).fit = (inside b false 32 && inside l false 64 && inside W false l && inside c false 16) := by simp [Ci.fit]
  have hcode : (Ci.mk 1 2 b l W c).code = if (Ci.mk 1 2 b l W c).fit = true then (if 511 < (Ci.mk 1 2 b l W c).callsN then 5 else 0) else 6 := by simp [Ci.code]
  have hFt : (Ci.mk 1 2 b l W c).fit = true → (Ci.mk 1 2 b l W c).Fits := fun h => Ci.fits (x := Ci.mk 1 2 b l W c) (by simp) (by simp) h
  rw [hfit] at hcode hFt
  clear hfit
  generalize inside b false 32 = B1 at *
  generalize inside l false 64 = B2 at *
  generalize inside W false l = B3 at *
  generalize inside c false 16 = B4 at *
  replace hB := Lib.hid hB
  replace hL := Lib.hid hL
  replace hW := Lib.hid hW
  replace hC := Lib.hid hC
  replace hFt := Lib.hid hFt
  go_enter Tryz.func46, Tryz.ntmps46
  go_upto_region 1 with (fail)
  refine name_wp (fun w1 => Below w.heap.size w w1 ∧ w1.heap[w.heap.size]? = some (.cells #[.int .i64 1, .int .i64 2, .int .i64 b, .int .i64 l, .int .i64 W, .int .i64 c] 80 (0, 0))) ⟨(Below.refl _ _).alloc (Nat.le_refl _) _, alloc_at rfl⟩ ?_
  rintro w1 ⟨hb, k0⟩
  obtain ⟨c0, c1, c2, c3, c4, c5⟩ := blk6 k0
  cases B1 with
  | false =>
    replace hcode := Lib.hid (hcode.trans (by simp : _ = (6 : Int)))
    go_wp2_with fail
    refine call_then (hB.out _) ?_
    intro w2 hb2
    replace hb := below_next hb hb.size hb2
    replace k0 := keeps hb2 k0
    clear hb2 c0 c1 c2 c3 c4 c5
    obtain ⟨c0, c1, c2, c3, c4, c5⟩ := blk6 k0
    go_wp2
    go_ret
    exact ⟨by rw [hcode.out]; first | done | rfl, hb⟩
  | true =>
    cases B2 with
    | false =>
      replace hcode := Lib.hid (hcode.trans (by simp : _ = (6 : Int)))
      go_wp2_with fail
      refine call_then (hB.out _) ?_
      intro w2 hb2
      replace hb := below_next hb hb.size hb2
      replace k0 := keeps hb2 k0
      clear hb2 c0 c1 c2 c3 c4 c5
      obtain ⟨c0, c1, c2, c3, c4, c5⟩ := blk6 k0
      go_wp2_with fail
      refine call_then (hL.out _) ?_
      intro w2 hb2
      replace hb := below_next hb hb.size hb2
      replace k0 := keeps hb2 k0
      clear hb2 c0 c1 c2 c3 c4 c5
      obtain ⟨c0, c1, c2, c3, c4, c5⟩ := blk6 k0
      go_wp2
      go_ret
      exact ⟨by rw [hcode.out]; first | done | rfl, hb⟩
    | true =>
      cases B3 with
      | false =>
        replace hcode := Lib.hid (hcode.trans (by simp : _ = (6 : Int)))
        go_wp2_with fail
        refine call_then (hB.out _) ?_
        intro w2 hb2
        replace hb := below_next hb hb.size hb2
        replace k0 := keeps hb2 k0
        clear hb2 c0 c1 c2 c3 c4 c5
        obtain ⟨c0, c1, c2, c3, c4, c5⟩ := blk6 k0
        go_wp2_with fail
        refine call_then (hL.out _) ?_
        intro w2 hb2
        replace hb := below_next hb hb.size hb2
        replace k0 := keeps hb2 k0
        clear hb2 c0 c1 c2 c3 c4 c5
        obtain ⟨c0, c1, c2, c3, c4, c5⟩ := blk6 k0
        go_wp2_with fail
        refine call_then (hW.out _) ?_
        intro w2 hb2
        replace hb := below_next hb hb.size hb2
        replace k0 := keeps hb2 k0
        clear hb2 c0 c1 c2 c3 c4 c5
        obtain ⟨c0, c1, c2, c3, c4, c5⟩ := blk6 k0
        go_wp2
        go_ret
        exact ⟨by rw [hcode.out]; first | done | rfl, hb⟩
      | true =>
        cases B4 with
        | false =>
          replace hcode := Lib.hid (hcode.trans (by simp : _ = (6 : Int)))
          go_wp2_with fail
          refine call_then (hB.out _) ?_
          intro w2 hb2
          replace hb := below_next hb hb.size hb2
          replace k0 := keeps hb2 k0
          clear hb2 c0 c1 c2 c3 c4 c5
          obtain ⟨c0, c1, c2, c3, c4, c5⟩ := blk6 k0
          go_wp2_with fail
          refine call_then (hL.out _) ?_
          intro w2 hb2
          replace hb := below_next hb hb.size hb2
          replace k0 := keeps hb2 k0
          clear hb2 c0 c1 c2 c3 c4 c5
          obtain ⟨c0, c1, c2, c3, c4, c5⟩ := blk6 k0
          go_wp2_with fail
          refine call_then (hW.out _) ?_
          intro w2 hb2
          replace hb := below_next hb hb.size hb2
          replace k0 := keeps hb2 k0
          clear hb2 c0 c1 c2 c3 c4 c5
          obtain ⟨c0, c1, c2, c3, c4, c5⟩ := blk6 k0
          go_wp2_with fail
          refine call_then (hC.out _) ?_
          intro w2 hb2
          replace hb := below_next hb hb.size hb2
          replace k0 := keeps hb2 k0
          clear hb2 c0 c1 c2 c3 c4 c5
          obtain ⟨c0, c1, c2, c3, c4, c5⟩ := blk6 k0
          go_wp2
          go_ret
          exact ⟨by rw [hcode.out]; first | done | rfl, hb⟩
        | true =>
          have hca := fun w => rcalls_any 1 2 b l W c (hFt.out rfl) w
          simp only [Bool.and_self, if_true] at hcode
          generalize (Ci.mk 1 2 b l W c).callsN = N at *
          replace hca := Lib.hid hca
          by_cases hN : 511 < N
          · replace hcode := Lib.hid (hcode.trans (if_pos hN))
            have b1 : decide ((N : Int) > 511) = true := by rw [decide_eq_true_eq]; omega
            go_wp2_with fail
            refine call_then (hB.out _) ?_
            intro w2 hb2
            replace hb := below_next hb hb.size hb2
            replace k0 := keeps hb2 k0
            clear hb2 c0 c1 c2 c3 c4 c5
            obtain ⟨c0, c1, c2, c3, c4, c5⟩ := blk6 k0
            go_wp2_with fail
            refine call_then (hL.out _) ?_
            intro w2 hb2
            replace hb := below_next hb hb.size hb2
            replace k0 := keeps hb2 k0
            clear hb2 c0 c1 c2 c3 c4 c5
            obtain ⟨c0, c1, c2, c3, c4, c5⟩ := blk6 k0
            go_wp2_with fail
            refine call_then (hW.out _) ?_
            intro w2 hb2
            replace hb := below_next hb hb.size hb2
            replace k0 := keeps hb2 k0
            clear hb2 c0 c1 c2 c3 c4 c5
            obtain ⟨c0, c1, c2, c3, c4, c5⟩ := blk6 k0
            go_wp2_with fail
            refine call_then (hC.out _) ?_
            intro w2 hb2
            replace hb := below_next hb hb.size hb2
            replace k0 := keeps hb2 k0
            clear hb2 c0 c1 c2 c3 c4 c5
            obtain ⟨c0, c1, c2, c3, c4, c5⟩ := blk6 k0
            go_wp2_with fail
            refine call_then (hca.out _) ?_
            intro w2 hb2
            replace hb := below_next hb hb.size hb2
            replace k0 := keeps hb2 k0
            clear hb2 c0 c1 c2 c3 c4 c5
            obtain ⟨c0, c1, c2, c3, c4, c5⟩ := blk6 k0
            go_wp2
            go_ret
            exact ⟨by rw [hcode.out]; first | done | rfl, hb⟩
          · replace hcode := Lib.hid (hcode.trans (if_neg hN))
            have b1 : decide ((N : Int) > 511) = false := by rw [decide_eq_false_iff_not]; omega
            go_wp2_with fail
            refine call_then (hB.out _) ?_
            intro w2 hb2
            replace hb := below_next hb hb.size hb2
            replace k0 := keeps hb2 k0
            clear hb2 c0 c1 c2 c3 c4 c5
            obtain ⟨c0, c1, c2, c3, c4, c5⟩ := blk6 k0
            go_wp2_with fail
            refine call_then (hL.out _) ?_
            intro w2 hb2
            replace hb := below_next hb hb.size hb2
            replace k0 := keeps hb2 k0
            clear hb2 c0 c1 c2 c3 c4 c5
            obtain ⟨c0, c1, c2, c3, c4, c5⟩ := blk6 k0
            go_wp2_with fail
            refine call_then (hW.out _) ?_
            intro w2 hb2
            replace hb := below_next hb hb.size hb2
            replace k0 := keeps hb2 k0
            clear hb2 c0 c1 c2 c3 c4 c5
            obtain ⟨c0, c1, c2, c3, c4, c5⟩ := blk6 k0
            go_wp2_with fail
            refine call_then (hC.out _) ?_
            intro w2 hb2
            replace hb := below_next hb hb.size hb2
            replace k0 := keeps hb2 k0
            clear hb2 c0 c1 c2 c3 c4 c5
            obtain ⟨c0, c1, c2, c3, c4, c5⟩ := blk6 k0
            go_wp2_with fail
            refine call_then (hca.out _) ?_
            intro w2 hb2
            replace hb := below_next hb hb.size hb2
            replace k0 := keeps hb2 k0
            clear hb2 c0 c1 c2 c3 c4 c5
            obtain ⟨c0, c1, c2, c3, c4, c5⟩ := blk6 k0
            go_wp2
            go_ret
            exact ⟨by rw [hcode.out]; first | done | rfl, hb⟩
theorem rcheck_2_2 (b l W c : Int) (w : World) : Calls Tryz.prog 46 #[.agg #[.int .i64 2, .int .i64 2, .int .i64 b, .int .i64 l, .int .i64 W, .int .i64 c]] w fun e w' => e = .returned (.int .i64 ((Ci.mk 2 2 b l W c).code)) ∧ Below w.heap.size w w' := by
  have hB := fun w => used_any b 32 true w
  have hL := fun w => used_any l 64 false w
  have hW := fun w => used_any W l false w
  have hC := fun w => used_any c 16 false w
  have hfit : (Ci.mk 2 2 b l W c).fit = (inside b true 32 && inside l false 64 && inside W false l && inside c false 16) := by simp [Ci.fit]
  have hcode : (Ci.mk 2 2 b l W c).code = if (Ci.mk 2 2 b l W c).fit = true then (if 511 < (Ci.mk 2 2 b l W c).callsN then 5 else 0) else 6 := by simp [Ci.code]
  have hFt : (Ci.mk 2 2 b l W c).fit = true → (Ci.mk 2 2 b l W c).Fits := fun h => Ci.fits (x := Ci.mk 2 2 b l W c) (by simp) (by simp) h
  rw [hfit] at hcode hFt
  clear hfit
  generalize inside b true 32 = B1 at *
  generalize inside l false 64 = B2 at *
  generalize inside W false l = B3 at *
  generalize inside c false 16 = B4 at *
  replace hB := Lib.hid hB
  replace hL := Lib.hid hL
  replace hW := Lib.hid hW
  replace hC := Lib.hid hC
  replace hFt := Lib.hid hFt
  go_enter Tryz.func46, Tryz.ntmps46
  go_upto_region 1 with (fail)
  refine name_wp (fun w1 => Below w.heap.size w w1 ∧ w1.heap[w.heap.size]? = some (.cells #[.int .i64 2, .int .i64 2, .int .i64 b, .int .i64 l, .int .i64 W, .int .i64 c] 80 (0, 0))) ⟨(Below.refl _ _).alloc (Nat.le_refl _) _, alloc_at rfl⟩ ?_
  rintro w1 ⟨hb, k0⟩
  obtain ⟨c0, c1, c2, c3, c4, c5⟩ := blk6 k0
  cases B1 with
  | false =>
    replace hcode := Lib.hid (hcode.trans (by simp : _ = (6 : Int)))
    go_wp2_with fail
    refine call_then (hB.out _) ?_
    intro w2 hb2
    replace hb := below_next hb hb.size hb2
    replace k0 := keeps hb2 k0
    clear hb2 c0 c1 c2 c3 c4 c5
    obtain ⟨c0, c1, c2, c3, c4, c5⟩ := blk6 k0
    go_wp2
    go_ret
    exact ⟨by rw [hcode.out]; first | done | rfl, hb⟩
  | true =>
    cases B2 with
    | false =>
      replace hcode := Lib.hid (hcode.trans (by simp : _ = (6 : Int)))
      go_wp2_with fail
      refine call_then (hB.out _) ?_
      intro w2 hb2
      replace hb := below_next hb hb.size hb2
      replace k0 := keeps hb2 k0
      clear hb2 c0 c1 c2 c3 c4 c5
      obtain ⟨c0, c1, c2, c3, c4, c5⟩ := blk6 k0
      go_wp2_with fail
      refine call_then (hL.out _) ?_
      intro w2 hb2
      replace hb := below_next hb hb.size hb2
      replace k0 := keeps hb2 k0
      clear hb2 c0 c1 c2 c3 c4 c5
      obtain ⟨c0, c1, c2, c3, c4, c5⟩ := blk6 k0
      go_wp2
      go_ret
      exact ⟨by rw [hcode.out]; first | done | rfl, hb⟩
    | true =>
      cases B3 with
      | false =>
        replace hcode := Lib.hid (hcode.trans (by simp : _ = (6 : Int)))
        go_wp2_with fail
        refine call_then (hB.out _) ?_
        intro w2 hb2
        replace hb := below_next hb hb.size hb2
        replace k0 := keeps hb2 k0
        clear hb2 c0 c1 c2 c3 c4 c5
        obtain ⟨c0, c1, c2, c3, c4, c5⟩ := blk6 k0
        go_wp2_with fail
        refine call_then (hL.out _) ?_
        intro w2 hb2
        replace hb := below_next hb hb.size hb2
        replace k0 := keeps hb2 k0
        clear hb2 c0 c1 c2 c3 c4 c5
        obtain ⟨c0, c1, c2, c3, c4, c5⟩ := blk6 k0
        go_wp2_with fail
        refine call_then (hW.out _) ?_
        intro w2 hb2
        replace hb := below_next hb hb.size hb2
        replace k0 := keeps hb2 k0
        clear hb2 c0 c1 c2 c3 c4 c5
        obtain ⟨c0, c1, c2, c3, c4, c5⟩ := blk6 k0
        go_wp2
        go_ret
        exact ⟨by rw [hcode.out]; first | done | rfl, hb⟩
      | true =>
        cases B4 with
        | false =>
          replace hcode := Lib.hid (hcode.trans (by simp : _ = (6 : Int)))
          go_wp2_with fail
          refine call_then (hB.out _) ?_
          intro w2 hb2
          replace hb := below_next hb hb.size hb2
          replace k0 := keeps hb2 k0
          clear hb2 c0 c1 c2 c3 c4 c5
          obtain ⟨c0, c1, c2, c3, c4, c5⟩ := blk6 k0
          go_wp2_with fail
          refine call_then (hL.out _) ?_
          intro w2 hb2
          replace hb := below_next hb hb.size hb2
          replace k0 := keeps hb2 k0
          clear hb2 c0 c1 c2 c3 c4 c5
          obtain ⟨c0, c1, c2, c3, c4, c5⟩ := blk6 k0
          go_wp2_with fail
          refine call_then (hW.out _) ?_
          intro w2 hb2
          replace hb := below_next hb hb.size hb2
          replace k0 := keeps hb2 k0
          clear hb2 c0 c1 c2 c3 c4 c5
          obtain ⟨c0, c1, c2, c3, c4, c5⟩ := blk6 k0
          go_wp2_with fail
          refine call_then (hC.out _) ?_
          intro w2 hb2
          replace hb := below_next hb hb.size hb2
          replace k0 := keeps hb2 k0
          clear hb2 c0 c1 c2 c3 c4 c5
          obtain ⟨c0, c1, c2, c3, c4, c5⟩ := blk6 k0
          go_wp2
          go_ret
          exact ⟨by rw [hcode.out]; first | done | rfl, hb⟩
        | true =>
          have hca := fun w => rcalls_any 2 2 b l W c (hFt.out rfl) w
          simp only [Bool.and_self, if_true] at hcode
          generalize (Ci.mk 2 2 b l W c).callsN = N at *
          replace hca := Lib.hid hca
          by_cases hN : 511 < N
          · replace hcode := Lib.hid (hcode.trans (if_pos hN))
            have b1 : decide ((N : Int) > 511) = true := by rw [decide_eq_true_eq]; omega
            go_wp2_with fail
            refine call_then (hB.out _) ?_
            intro w2 hb2
            replace hb := below_next hb hb.size hb2
            replace k0 := keeps hb2 k0
            clear hb2 c0 c1 c2 c3 c4 c5
            obtain ⟨c0, c1, c2, c3, c4, c5⟩ := blk6 k0
            go_wp2_with fail
            refine call_then (hL.out _) ?_
            intro w2 hb2
            replace hb := below_next hb hb.size hb2
            replace k0 := keeps hb2 k0
            clear hb2 c0 c1 c2 c3 c4 c5
            obtain ⟨c0, c1, c2, c3, c4, c5⟩ := blk6 k0
            go_wp2_with fail
            refine call_then (hW.out _) ?_
            intro w2 hb2
            replace hb := below_next hb hb.size hb2
            replace k0 := keeps hb2 k0
            clear hb2 c0 c1 c2 c3 c4 c5
            obtain ⟨c0, c1, c2, c3, c4, c5⟩ := blk6 k0
            go_wp2_with fail
            refine call_then (hC.out _) ?_
            intro w2 hb2
            replace hb := below_next hb hb.size hb2
            replace k0 := keeps hb2 k0
            clear hb2 c0 c1 c2 c3 c4 c5
            obtain ⟨c0, c1, c2, c3, c4, c5⟩ := blk6 k0
            go_wp2_with fail
            refine call_then (hca.out _) ?_
            intro w2 hb2
            replace hb := below_next hb hb.size hb2
            replace k0 := keeps hb2 k0
            clear hb2 c0 c1 c2 c3 c4 c5
            obtain ⟨c0, c1, c2, c3, c4, c5⟩ := blk6 k0
            go_wp2
            go_ret
            exact ⟨by rw [hcode.out]; first | done | rfl, hb⟩
          · replace hcode := Lib.hid (hcode.trans (if_neg hN))
            have b1 : decide ((N : Int) > 511) = false := by rw [decide_eq_false_iff_not]; omega
            go_wp2_with fail
            refine call_then (hB.out _) ?_
            intro w2 hb2
            replace hb := below_next hb hb.size hb2
            replace k0 := keeps hb2 k0
            clear hb2 c0 c1 c2 c3 c4 c5
            obtain ⟨c0, c1, c2, c3, c4, c5⟩ := blk6 k0
            go_wp2_with fail
            refine call_then (hL.out _) ?_
            intro w2 hb2
            replace hb := below_next hb hb.size hb2
            replace k0 := keeps hb2 k0
            clear hb2 c0 c1 c2 c3 c4 c5
            obtain ⟨c0, c1, c2, c3, c4, c5⟩ := blk6 k0
            go_wp2_with fail
            refine call_then (hW.out _) ?_
            intro w2 hb2
            replace hb := below_next hb hb.size hb2
            replace k0 := keeps hb2 k0
            clear hb2 c0 c1 c2 c3 c4 c5
            obtain ⟨c0, c1, c2, c3, c4, c5⟩ := blk6 k0
            go_wp2_with fail
            refine call_then (hC.out _) ?_
            intro w2 hb2
            replace hb := below_next hb hb.size hb2
            replace k0 := keeps hb2 k0
            clear hb2 c0 c1 c2 c3 c4 c5
            obtain ⟨c0, c1, c2, c3, c4, c5⟩ := blk6 k0
            go_wp2_with fail
            refine call_then (hca.out _) ?_
            intro w2 hb2
            replace hb := below_next hb hb.size hb2
            replace k0 := keeps hb2 k0
            clear hb2 c0 c1 c2 c3 c4 c5
            obtain ⟨c0, c1, c2, c3, c4, c5⟩ := blk6 k0
            go_wp2
            go_ret
            exact ⟨by rw [hcode.out]; first | done | rfl, hb⟩
theorem rcheck_3_2 (b l W c : Int) (w : World) : Calls Tryz.prog 46 #[.agg #[.int .i64 3, .int .i64 2, .int .i64 b, .int .i64 l, .int .i64 W, .int .i64 c]] w fun e w' => e = .returned (.int .i64 ((Ci.mk 3 2 b l W c).code)) ∧ Below w.heap.size w w' := by
  have hB := fun w => used_any b 32 true w
  have hL := fun w => used_any l 64 true w
  have hW := fun w => used_any W l false w
  have hC := fun w => used_any c 16 true w
  have hfit : (Ci.mk 3 2 b l W c).fit = (inside b true 32 && inside l true 64 && inside W false l && inside c true 16) := by simp [Ci.fit]
  have hcode : (Ci.mk 3 2 b l W c).code = if (Ci.mk 3 2 b l W c).fit = true then (if 511 < (Ci.mk 3 2 b l W c).callsN then 5 else 0) else 6 := by simp [Ci.code]
  have hFt : (Ci.mk 3 2 b l W c).fit = true → (Ci.mk 3 2 b l W c).Fits := fun h => Ci.fits (x := Ci.mk 3 2 b l W c) (by simp) (by simp) h
  rw [hfit] at hcode hFt
  clear hfit
  generalize inside b true 32 = B1 at *
  generalize inside l true 64 = B2 at *
  generalize inside W false l = B3 at *
  generalize inside c true 16 = B4 at *
  replace hB := Lib.hid hB
  replace hL := Lib.hid hL
  replace hW := Lib.hid hW
  replace hC := Lib.hid hC
  replace hFt := Lib.hid hFt
  go_enter Tryz.func46, Tryz.ntmps46
  go_upto_region 1 with (fail)
  refine name_wp (fun w1 => Below w.heap.size w w1 ∧ w1.heap[w.heap.size]? = some (.cells #[.int .i64 3, .int .i64 2, .int .i64 b, .int .i64 l, .int .i64 W, .int .i64 c] 80 (0, 0))) ⟨(Below.refl _ _).alloc (Nat.le_refl _) _, alloc_at rfl⟩ ?_
  rintro w1 ⟨hb, k0⟩
  obtain ⟨c0, c1, c2, c3, c4, c5⟩ := blk6 k0
  cases B1 with
  | false =>
    replace hcode := Lib.hid (hcode.trans (by simp : _ = (6 : Int)))
    go_wp2_with fail
    refine call_then (hB.out _) ?_
    intro w2 hb2
    replace hb := below_next hb hb.size hb2
    replace k0 := keeps hb2 k0
    clear hb2 c0 c1 c2 c3 c4 c5
    obtain ⟨c0, c1, c2, c3, c4, c5⟩ := blk6 k0
    go_wp2
    go_ret
    exact ⟨by rw [hcode.out]; first | done | rfl, hb⟩
  | true =>
    cases B2 with
    | false =>
      replace hcode := Lib.hid (hcode.trans (by simp : _ = (6 : Int)))
      go_wp2_with fail
      refine call_then (hB.out _) ?_
      intro w2 hb2
      replace hb := below_next hb hb.size hb2
      replace k0 := keeps hb2 k0
      clear hb2 c0 c1 c2 c3 c4 c5
      obtain ⟨c0, c1, c2, c3, c4, c5⟩ := blk6 k0
      go_wp2_with fail
      refine call_then (hL.out _) ?_
      intro w2 hb2
      replace hb := below_next hb hb.size hb2
      replace k0 := keeps hb2 k0
      clear hb2 c0 c1 c2 c3 c4 c5
      obtain ⟨c0, c1, c2, c3, c4, c5⟩ := blk6 k0
      go_wp2
      go_ret
      exact ⟨by rw [hcode.out]; first | done | rfl, hb⟩
    | true =>
      cases B3 with
      | false =>
        replace hcode := Lib.hid (hcode.trans (by simp : _ = (6 : Int)))
        go_wp2_with fail
        refine call_then (hB.out _) ?_
        intro w2 hb2
        replace hb := below_next hb hb.size hb2
        replace k0 := keeps hb2 k0
        clear hb2 c0 c1 c2 c3 c4 c5
        obtain ⟨c0, c1, c2, c3, c4, c5⟩ := blk6 k0
        go_wp2_with fail
        refine call_then (hL.out _) ?_
        intro w2 hb2
        replace hb := below_next hb hb.size hb2
        replace k0 := keeps hb2 k0
        clear hb2 c0 c1 c2 c3 c4 c5
        obtain ⟨c0, c1, c2, c3, c4, c5⟩ := blk6 k0
        go_wp2_with fail
        refine call_then (hW.out _) ?_
        intro w2 hb2
        replace hb := below_next hb hb.size hb2
        replace k0 := keeps hb2 k0
        clear hb2 c0 c1 c2 c3 c4 c5
        obtain ⟨c0, c1, c2, c3, c4, c5⟩ := blk6 k0
        go_wp2
        go_ret
        exact ⟨by rw [hcode.out]; first | done | rfl, hb⟩
      | true =>
        cases B4 with
        | false =>
          replace hcode := Lib.hid (hcode.trans (by simp : _ = (6 : Int)))
          go_wp2_with fail
          refine call_then (hB.out _) ?_
          intro w2 hb2
          replace hb := below_next hb hb.size hb2
          replace k0 := keeps hb2 k0
          clear hb2 c0 c1 c2 c3 c4 c5
          obtain ⟨c0, c1, c2, c3, c4, c5⟩ := blk6 k0
          go_wp2_with fail
          refine call_then (hL.out _) ?_
          intro w2 hb2
          replace hb := below_next hb hb.size hb2
          replace k0 := keeps hb2 k0
          clear hb2 c0 c1 c2 c3 c4 c5
          obtain ⟨c0, c1, c2, c3, c4, c5⟩ := blk6 k0
          go_wp2_with fail
          refine call_then (hW.out _) ?_
          intro w2 hb2
          replace hb := below_next hb hb.size hb2
          replace k0 := keeps hb2 k0
          clear hb2 c0 c1 c2 c3 c4 c5
          obtain ⟨c0, c1, c2, c3, c4, c5⟩ := blk6 k0
          go_wp2_with fail
          refine call_then (hC.out _) ?_
          intro w2 hb2
          replace hb := below_next hb hb.size hb2
          replace k0 := keeps hb2 k0
          clear hb2 c0 c1 c2 c3 c4 c5
          obtain ⟨c0, c1, c2, c3, c4, c5⟩ := blk6 k0
          go_wp2
          go_ret
          exact ⟨by rw [hcode.out]; first | done | rfl, hb⟩
        | true =>
          have hca := fun w => rcalls_any 3 2 b l W c (hFt.out rfl) w
          simp only [Bool.and_self, if_true] at hcode
          generalize (Ci.mk 3 2 b l W c).callsN = N at *
          replace hca := Lib.hid hca
          by_cases hN : 511 < N
          · replace hcode := Lib.hid (hcode.trans (if_pos hN))
            have b1 : decide ((N : Int) > 511) = true := by rw [decide_eq_true_eq]; omega
            go_wp2_with fail
            refine call_then (hB.out _) ?_
            intro w2 hb2
            replace hb := below_next hb hb.size hb2
            replace k0 := keeps hb2 k0
            clear hb2 c0 c1 c2 c3 c4 c5
            obtain ⟨c0, c1, c2, c3, c4, c5⟩ := blk6 k0
            go_wp2_with fail
            refine call_then (hL.out _) ?_
            intro w2 hb2
            replace hb := below_next hb hb.size hb2
            replace k0 := keeps hb2 k0
            clear hb2 c0 c1 c2 c3 c4 c5
            obtain ⟨c0, c1, c2, c3, c4, c5⟩ := blk6 k0
            go_wp2_with fail
            refine call_then (hW.out _) ?_
            intro w2 hb2
            replace hb := below_next hb hb.size hb2
            replace k0 := keeps hb2 k0
            clear hb2 c0 c1 c2 c3 c4 c5
            obtain ⟨c0, c1, c2, c3, c4, c5⟩ := blk6 k0
            go_wp2_with fail
            refine call_then (hC.out _) ?_
            intro w2 hb2
            replace hb := below_next hb hb.size hb2
            replace k0 := keeps hb2 k0
            clear hb2 c0 c1 c2 c3 c4 c5
            obtain ⟨c0, c1, c2, c3, c4, c5⟩ := blk6 k0
            go_wp2_with fail
            refine call_then (hca.out _) ?_
            intro w2 hb2
            replace hb := below_next hb hb.size hb2
            replace k0 := keeps hb2 k0
            clear hb2 c0 c1 c2 c3 c4 c5
            obtain ⟨c0, c1, c2, c3, c4, c5⟩ := blk6 k0
            go_wp2
            go_ret
            exact ⟨by rw [hcode.out]; first | done | rfl, hb⟩
          · replace hcode := Lib.hid (hcode.trans (if_neg hN))
            have b1 : decide ((N : Int) > 511) = false := by rw [decide_eq_false_iff_not]; omega
            go_wp2_with fail
            refine call_then (hB.out _) ?_
            intro w2 hb2
            replace hb := below_next hb hb.size hb2
            replace k0 := keeps hb2 k0
            clear hb2 c0 c1 c2 c3 c4 c5
            obtain ⟨c0, c1, c2, c3, c4, c5⟩ := blk6 k0
            go_wp2_with fail
            refine call_then (hL.out _) ?_
            intro w2 hb2
            replace hb := below_next hb hb.size hb2
            replace k0 := keeps hb2 k0
            clear hb2 c0 c1 c2 c3 c4 c5
            obtain ⟨c0, c1, c2, c3, c4, c5⟩ := blk6 k0
            go_wp2_with fail
            refine call_then (hW.out _) ?_
            intro w2 hb2
            replace hb := below_next hb hb.size hb2
            replace k0 := keeps hb2 k0
            clear hb2 c0 c1 c2 c3 c4 c5
            obtain ⟨c0, c1, c2, c3, c4, c5⟩ := blk6 k0
            go_wp2_with fail
            refine call_then (hC.out _) ?_
            intro w2 hb2
            replace hb := below_next hb hb.size hb2
            replace k0 := keeps hb2 k0
            clear hb2 c0 c1 c2 c3 c4 c5
            obtain ⟨c0, c1, c2, c3, c4, c5⟩ := blk6 k0
            go_wp2_with fail
            refine call_then (hca.out _) ?_
            intro w2 hb2
            replace hb := below_next hb hb.size hb2
            replace k0 := keeps hb2 k0
            clear hb2 c0 c1 c2 c3 c4 c5
            obtain ⟨c0, c1, c2, c3, c4, c5⟩ := blk6 k0
            go_wp2
            go_ret
            exact ⟨by rw [hcode.out]; first | done | rfl, hb⟩
theorem rcheck_4_2 (b l W c : Int) (w : World) : Calls Tryz.prog 46 #[.agg #[.int .i64 4, .int .i64 2, .int .i64 b, .int .i64 l, .int .i64 W, .int .i64 c]] w fun e w' => e = .returned (.int .i64 ((Ci.mk 4 2 b l W c).code)) ∧ Below w.heap.size w w' := by
  have hB := fun w => used_any b 32 false w
  have hL := fun w => used_any l 64 true w
  have hW := fun w => used_any W l false w
  have hC := fun w => used_any c 16 true w
  have hfit : (Ci.mk 4 2 b l W c).fit = (inside b false 32 && inside l true 64 && inside W false l && inside c true 16) := by simp [Ci.fit]
  have hcode : (Ci.mk 4 2 b l W c).code = if (Ci.mk 4 2 b l W c).fit = true then (if 511 < (Ci.mk 4 2 b l W c).callsN then 5 else 0) else 6 := by simp [Ci.code]
  have hFt : (Ci.mk 4 2 b l W c).fit = true → (Ci.mk 4 2 b l W c).Fits := fun h => Ci.fits (x := Ci.mk 4 2 b l W c) (by simp) (by simp) h
  rw [hfit] at hcode hFt
  clear hfit
  generalize inside b false 32 = B1 at *
  generalize inside l true 64 = B2 at *
  generalize inside W false l = B3 at *
  generalize inside c true 16 = B4 at *
  replace hB := Lib.hid hB
  replace hL := Lib.hid hL
  replace hW := Lib.hid hW
  replace hC := Lib.hid hC
  replace hFt := Lib.hid hFt
  go_enter Tryz.func46, Tryz.ntmps46
  go_upto_region 1 with (fail)
  refine name_wp (fun w1 => Below w.heap.size w w1 ∧ w1.heap[w.heap.size]? = some (.cells #[.int .i64 4, .int .i64 2, .int .i64 b, .int .i64 l, .int .i64 W, .int .i64 c] 80 (0, 0))) ⟨(Below.refl _ _).alloc (Nat.le_refl _) _, alloc_at rfl⟩ ?_
  rintro w1 ⟨hb, k0⟩
  obtain ⟨c0, c1, c2, c3, c4, c5⟩ := blk6 k0
  cases B1 with
  | false =>
    replace hcode := Lib.hid (hcode.trans (by simp : _ = (6 : Int)))
    go_wp2_with fail
    refine call_then (hB.out _) ?_
    intro w2 hb2
    replace hb := below_next hb hb.size hb2
    replace k0 := keeps hb2 k0
    clear hb2 c0 c1 c2 c3 c4 c5
    obtain ⟨c0, c1, c2, c3, c4, c5⟩ := blk6 k0
    go_wp2
    go_ret
    exact ⟨by rw [hcode.out]; first | done | rfl, hb⟩
  | true =>
    cases B2 with
    | false =>
      replace hcode := Lib.hid (hcode.trans (by simp : _ = (6 : Int)))
      go_wp2_with fail
      refine call_then (hB.out _) ?_
      intro w2 hb2
      replace hb := below_next hb hb.size hb2
      replace k0 := keeps hb2 k0
      clear hb2 c0 c1 c2 c3 c4 c5
      obtain ⟨c0, c1, c2, c3, c4, c5⟩ := blk6 k0
      go_wp2_with fail
      refine call_then (hL.out _) ?_
      intro w2 hb2
      replace hb := below_next hb hb.size hb2
      replace k0 := keeps hb2 k0
      clear hb2 c0 c1 c2 c3 c4 c5
      obtain ⟨c0, c1, c2, c3, c4, c5⟩ := blk6 k0
      go_wp2
      go_ret
      exact ⟨by rw [hcode.out]; first | done | rfl, hb⟩
    | true =>
      cases B3 with
      | false =>
        replace hcode := Lib.hid (hcode.trans (by simp : _ = (6 : Int)))
        go_wp2_with fail
        refine call_then (hB.out _) ?_
        intro w2 hb2
        replace hb := below_next hb hb.size hb2
        replace k0 := keeps hb2 k0
        clear hb2 c0 c1 c2 c3 c4 c5
        obtain ⟨c0, c1, c2, c3, c4, c5⟩ := blk6 k0
        go_wp2_with fail
        refine call_then (hL.out _) ?_
        intro w2 hb2
        replace hb := below_next hb hb.size hb2
        replace k0 := keeps hb2 k0
        clear hb2 c0 c1 c2 c3 c4 c5
        obtain ⟨c0, c1, c2, c3, c4, c5⟩ := blk6 k0
        go_wp2_with fail
        refine call_then (hW.out _) ?_
        intro w2 hb2
        replace hb := below_next hb hb.size hb2
        replace k0 := keeps hb2 k0
        clear hb2 c0 c1 c2 c3 c4 c5
        obtain ⟨c0, c1, c2, c3, c4, c5⟩ := blk6 k0
        go_wp2
        go_ret
        exact ⟨by rw [hcode.out]; first | done | rfl, hb⟩
      | true =>
        cases B4 with
        | false =>
          replace hcode := Lib.hid (hcode.trans (by simp : _ = (6 : Int)))
          go_wp2_with fail
          refine call_then (hB.out _) ?_
          intro w2 hb2
          replace hb := below_next hb hb.size hb2
          replace k0 := keeps hb2 k0
          clear hb2 c0 c1 c2 c3 c4 c5
          obtain ⟨c0, c1, c2, c3, c4, c5⟩ := blk6 k0
          go_wp2_with fail
          refine call_then (hL.out _) ?_
          intro w2 hb2
          replace hb := below_next hb hb.size hb2
          replace k0 := keeps hb2 k0
          clear hb2 c0 c1 c2 c3 c4 c5
          obtain ⟨c0, c1, c2, c3, c4, c5⟩ := blk6 k0
          go_wp2_with fail
          refine call_then (hW.out _) ?_
          intro w2 hb2
          replace hb := below_next hb hb.size hb2
          replace k0 := keeps hb2 k0
          clear hb2 c0 c1 c2 c3 c4 c5
          obtain ⟨c0, c1, c2, c3, c4, c5⟩ := blk6 k0
          go_wp2_with fail
          refine call_then (hC.out _) ?_
          intro w2 hb2
          replace hb := below_next hb hb.size hb2
          replace k0 := keeps hb2 k0
          clear hb2 c0 c1 c2 c3 c4 c5
          obtain ⟨c0, c1, c2, c3, c4, c5⟩ := blk6 k0
          go_wp2
          go_ret
          exact ⟨by rw [hcode.out]; first | done | rfl, hb⟩
        | true =>
          have hca := fun w => rcalls_any 4 2 b l W c (hFt.out rfl) w
          simp only [Bool.and_self, if_true] at hcode
          generalize (Ci.mk 4 2 b l W c).callsN = N at *
          replace hca := Lib.hid hca
          by_cases hN : 511 < N
          · replace hcode := Lib.hid (hcode.trans (if_pos hN))
            have b1 : decide ((N : Int) > 511) = true := by rw [decide_eq_true_eq]; omega
            go_wp2_with fail
            refine call_then (hB.out _) ?_
            intro w2 hb2
            replace hb := below_next hb hb.size hb2
            replace k0 := keeps hb2 k0
            clear hb2 c0 c1 c2 c3 c4 c5
            obtain ⟨c0, c1, c2, c3, c4, c5⟩ := blk6 k0
            go_wp2_with fail
            refine call_then (hL.out _) ?_
            intro w2 hb2
            replace hb := below_next hb hb.size hb2
            replace k0 := keeps hb2 k0
            clear hb2 c0 c1 c2 c3 c4 c5
            obtain ⟨c0, c1, c2, c3, c4, c5⟩ := blk6 k0
            go_wp2_with fail
            refine call_then (hW.out _) ?_
            intro w2 hb2
            replace hb := below_next hb hb.size hb2
            replace k0 := keeps hb2 k0
            clear hb2 c0 c1 c2 c3 c4 c5
            obtain ⟨c0, c1, c2, c3, c4, c5⟩ := blk6 k0
            go_wp2_with fail
            refine call_then (hC.out _) ?_
            intro w2 hb2
            replace hb := below_next hb hb.size hb2
            replace k0 := keeps hb2 k0
            clear hb2 c0 c1 c2 c3 c4 c5
            obtain ⟨c0, c1, c2, c3, c4, c5⟩ := blk6 k0
            go_wp2_with fail
            refine call_then (hca.out _) ?_
            intro w2 hb2
            replace hb := below_next hb hb.size hb2
            replace k0 := keeps hb2 k0
            clear hb2 c0 c1 c2 c3 c4 c5
            obtain ⟨c0, c1, c2, c3, c4, c5⟩ := blk6 k0
            go_wp2
            go_ret
            exact ⟨by rw [hcode.out]; first | done | rfl, hb⟩
          · replace hcode := Lib.hid (hcode.trans (if_neg hN))
            have b1 : decide ((N : Int) > 511) = false := by rw [decide_eq_false_iff_not]; omega
            go_wp2_with fail
            refine call_then (hB.out _) ?_
            intro w2 hb2
            replace hb := below_next hb hb.size hb2
            replace k0 := keeps hb2 k0
            clear hb2 c0 c1 c2 c3 c4 c5
            obtain ⟨c0, c1, c2, c3, c4, c5⟩ := blk6 k0
            go_wp2_with fail
            refine call_then (hL.out _) ?_
            intro w2 hb2
            replace hb := below_next hb hb.size hb2
            replace k0 := keeps hb2 k0
            clear hb2 c0 c1 c2 c3 c4 c5
            obtain ⟨c0, c1, c2, c3, c4, c5⟩ := blk6 k0
            go_wp2_with fail
            refine call_then (hW.out _) ?_
            intro w2 hb2
            replace hb := below_next hb hb.size hb2
            replace k0 := keeps hb2 k0
            clear hb2 c0 c1 c2 c3 c4 c5
            obtain ⟨c0, c1, c2, c3, c4, c5⟩ := blk6 k0
            go_wp2_with fail
            refine call_then (hC.out _) ?_
            intro w2 hb2
            replace hb := below_next hb hb.size hb2
            replace k0 := keeps hb2 k0
            clear hb2 c0 c1 c2 c3 c4 c5
            obtain ⟨c0, c1, c2, c3, c4, c5⟩ := blk6 k0
            go_wp2_with fail
            refine call_then (hca.out _) ?_
            intro w2 hb2
            replace hb := below_next hb hb.size hb2
            replace k0 := keeps hb2 k0
            clear hb2 c0 c1 c2 c3 c4 c5
            obtain ⟨c0, c1, c2, c3, c4, c5⟩ := blk6 k0
            go_wp2
            go_ret
            exact ⟨by rw [hcode.out]; first | done | rfl, hb⟩
theorem rcheck_5_2 (b l W c : Int) (w : World) : Calls Tryz.prog 46 #[.agg #[.int .i64 5, .int .i64 2, .int .i64 b, .int .i64 l, .int .i64 W, .int .i64 c]] w fun e w' => e = .returned (.int .i64 ((Ci.mk 5 2 b l W c).code)) ∧ Below w.heap.size w w' := by
  have hB := fun w => used_any b 32 false w
  have hL := fun w => used_any l 64 true w
  have hW := fun w => used_any W l true w
  have hC := fun w => used_any c 16 true w
  have hfit : (Ci.mk 5 2 b l W c).fit = (inside b false 32 && inside l true 64 && inside W true l && inside c true 16) := by simp [Ci.fit]
  have hcode : (Ci.mk 5 2 b l W c).code = if (Ci.mk 5 2 b l W c).fit = true then (if 511 < (Ci.mk 5 2 b l W c).callsN then 5 else 0) else 6 := by simp [Ci.code]
  have hFt : (Ci.mk 5 2 b l W c).fit = true → (Ci.mk 5 2 b l W c).Fits := fun h => Ci.fits (x := Ci.mk 5 2 b l W c) (by simp) (by simp) h
  rw [hfit] at hcode hFt
  clear hfit
  generalize inside b false 32 = B1 at *
  generalize inside l true 64 = B2 at *
  generalize inside W true l = B3 at *
  generalize inside c true 16 = B4 at *
  replace hB := Lib.hid hB
  replace hL := Lib.hid hL
  replace hW := Lib.hid hW
  replace hC := Lib.hid hC
  replace hFt := Lib.hid hFt
  go_enter Tryz.func46, Tryz.ntmps46
  go_upto_region 1 with (fail)
  refine name_wp (fun w1 => Below w.heap.size w w1 ∧ w1.heap[w.heap.size]? = some (.cells #[.int .i64 5, .int .i64 2, .int .i64 b, .int .i64 l, .int .i64 W, .int .i64 c] 80 (0, 0))) ⟨(Below.refl _ _).alloc (Nat.le_refl _) _, alloc_at rfl⟩ ?_
  rintro w1 ⟨hb, k0⟩
  obtain ⟨c0, c1, c2, c3, c4, c5⟩ := blk6 k0
  cases B1 with
  | false =>
    replace hcode := Lib.hid (hcode.trans (by simp : _ = (6 : Int)))
    go_wp2_with fail
    refine call_then (hB.out _) ?_
    intro w2 hb2
    replace hb := below_next hb hb.size hb2
    replace k0 := keeps hb2 k0
    clear hb2 c0 c1 c2 c3 c4 c5
    obtain ⟨c0, c1, c2, c3, c4, c5⟩ := blk6 k0
    go_wp2
    go_ret
    exact ⟨by rw [hcode.out]; first | done | rfl, hb⟩
  | true =>
    cases B2 with
    | false =>
      replace hcode := Lib.hid (hcode.trans (by simp : _ = (6 : Int)))
      go_wp2_with fail
      refine call_then (hB.out _) ?_
      intro w2 hb2
      replace hb := below_next hb hb.size hb2
      replace k0 := keeps hb2 k0
      clear hb2 c0 c1 c2 c3 c4 c5
      obtain ⟨c0, c1, c2, c3, c4, c5⟩ := blk6 k0
      go_wp2_with fail
      refine call_then (hL.out _) ?_
      intro w2 hb2
      replace hb := below_next hb hb.size hb2
      replace k0 := keeps hb2 k0
      clear hb2 c0 c1 c2 c3 c4 c5
      obtain ⟨c0, c1, c2, c3, c4, c5⟩ := blk6 k0
      go_wp2
      go_ret
      exact ⟨by rw [hcode.out]; first | done | rfl, hb⟩
    | true =>
      cases B3 with
      | false =>
        replace hcode := Lib.hid (hcode.trans (by simp : _ = (6 : Int)))
        go_wp2_with fail
        refine call_then (hB.out _) ?_
        intro w2 hb2
        replace hb := below_next hb hb.size hb2
        replace k0 := keeps hb2 k0
        clear hb2 c0 c1 c2 c3 c4 c5
        obtain ⟨c0, c1, c2, c3, c4, c5⟩ := blk6 k0
        go_wp2_with fail
        refine call_then (hL.out _) ?_
        intro w2 hb2
        replace hb := below_next hb hb.size hb2
        replace k0 := keeps hb2 k0
        clear hb2 c0 c1 c2 c3 c4 c5
        obtain ⟨c0, c1, c2, c3, c4, c5⟩ := blk6 k0
        go_wp2_with fail
        refine call_then (hW.out _) ?_
        intro w2 hb2
        replace hb := below_next hb hb.size hb2
        replace k0 := keeps hb2 k0
        clear hb2 c0 c1 c2 c3 c4 c5
        obtain ⟨c0, c1, c2, c3, c4, c5⟩ := blk6 k0
        go_wp2
        go_ret
        exact ⟨by rw [hcode.out]; first | done | rfl, hb⟩
      | true =>
        cases B4 with
        | false =>
          replace hcode := Lib.hid (hcode.trans (by simp : _ = (6 : Int)))
          go_wp2_with fail
          refine call_then (hB.out _) ?_
          intro w2 hb2
          replace hb := below_next hb hb.size hb2
          replace k0 := keeps hb2 k0
          clear hb2 c0 c1 c2 c3 c4 c5
          obtain ⟨c0, c1, c2, c3, c4, c5⟩ := blk6 k0
          go_wp2_with fail
          refine call_then (hL.out _) ?_
          intro w2 hb2
          replace hb := below_next hb hb.size hb2
          replace k0 := keeps hb2 k0
          clear hb2 c0 c1 c2 c3 c4 c5
          obtain ⟨c0, c1, c2, c3, c4, c5⟩ := blk6 k0
          go_wp2_with fail
          refine call_then (hW.out _) ?_
          intro w2 hb2
          replace hb := below_next hb hb.size hb2
          replace k0 := keeps hb2 k0
          clear hb2 c0 c1 c2 c3 c4 c5
          obtain ⟨c0, c1, c2, c3, c4, c5⟩ := blk6 k0
          go_wp2_with fail
          refine call_then (hC.out _) ?_
          intro w2 hb2
          replace hb := below_next hb hb.size hb2
          replace k0 := keeps hb2 k0
          clear hb2 c0 c1 c2 c3 c4 c5
          obtain ⟨c0, c1, c2, c3, c4, c5⟩ := blk6 k0
          go_wp2
          go_ret
          exact ⟨by rw [hcode.out]; first | done | rfl, hb⟩
        | true =>
          have hca := fun w => rcalls_any 5 2 b l W c (hFt.out rfl) w
          simp only [Bool.and_self, if_true] at hcode
          generalize (Ci.mk 5 2 b l W c).callsN = N at *
          replace hca := Lib.hid hca
          by_cases hN : 511 < N
          · replace hcode := Lib.hid (hcode.trans (if_pos hN))
            have b1 : decide ((N : Int) > 511) = true := by rw [decide_eq_true_eq]; omega
            go_wp2_with fail
            refine call_then (hB.out _) ?_
            intro w2 hb2
            replace hb := below_next hb hb.size hb2
            replace k0 := keeps hb2 k0
            clear hb2 c0 c1 c2 c3 c4 c5
            obtain ⟨c0, c1, c2, c3, c4, c5⟩ := blk6 k0
            go_wp2_with fail
            refine call_then (hL.out _) ?_
            intro w2 hb2
            replace hb := below_next hb hb.size hb2
            replace k0 := keeps hb2 k0
            clear hb2 c0 c1 c2 c3 c4 c5
            obtain ⟨c0, c1, c2, c3, c4, c5⟩ := blk6 k0
            go_wp2_with fail
            refine call_then (hW.out _) ?_
            intro w2 hb2
            replace hb := below_next hb hb.size hb2
            replace k0 := keeps hb2 k0
            clear hb2 c0 c1 c2 c3 c4 c5
            obtain ⟨c0, c1, c2, c3, c4, c5⟩ := blk6 k0
            go_wp2_with fail
            refine call_then (hC.out _) ?_
            intro w2 hb2
            replace hb := below_next hb hb.size hb2
            replace k0 := keeps hb2 k0
            clear hb2 c0 c1 c2 c3 c4 c5
            obtain ⟨c0, c1, c2, c3, c4, c5⟩ := blk6 k0
            go_wp2_with fail
            refine call_then (hca.out _) ?_
            intro w2 hb2
            replace hb := below_next hb hb.size hb2
            replace k0 := keeps hb2 k0
            clear hb2 c0 c1 c2 c3 c4 c5
            obtain ⟨c0, c1, c2, c3, c4, c5⟩ := blk6 k0
            go_wp2
            go_ret
            exact ⟨by rw [hcode.out]; first | done | rfl, hb⟩
          · replace hcode := Lib.hid (hcode.trans (if_neg hN))
            have b1 : decide ((N : Int) > 511) = false := by rw [decide_eq_false_iff_not]; omega
            go_wp2_with fail
            refine call_then (hB.out _) ?_
            intro w2 hb2
            replace hb := below_next hb hb.size hb2
            replace k0 := keeps hb2 k0
            clear hb2 c0 c1 c2 c3 c4 c5
            obtain ⟨c0, c1, c2, c3, c4, c5⟩ := blk6 k0
            go_wp2_with fail
            refine call_then (hL.out _) ?_
            intro w2 hb2
            replace hb := below_next hb hb.size hb2
            replace k0 := keeps hb2 k0
            clear hb2 c0 c1 c2 c3 c4 c5
            obtain ⟨c0, c1, c2, c3, c4, c5⟩ := blk6 k0
            go_wp2_with fail
            refine call_then (hW.out _) ?_
            intro w2 hb2
            replace hb := below_next hb hb.size hb2
            replace k0 := keeps hb2 k0
            clear hb2 c0 c1 c2 c3 c4 c5
            obtain ⟨c0, c1, c2, c3, c4, c5⟩ := blk6 k0
            go_wp2_with fail
            refine call_then (hC.out _) ?_
            intro w2 hb2
            replace hb := below_next hb hb.size hb2
            replace k0 := keeps hb2 k0
            clear hb2 c0 c1 c2 c3 c4 c5
            obtain ⟨c0, c1, c2, c3, c4, c5⟩ := blk6 k0
            go_wp2_with fail
            refine call_then (hca.out _) ?_
            intro w2 hb2
            replace hb := below_next hb hb.size hb2
            replace k0 := keeps hb2 k0
            clear hb2 c0 c1 c2 c3 c4 c5
            obtain ⟨c0, c1, c2, c3, c4, c5⟩ := blk6 k0
            go_wp2
            go_ret
            exact ⟨by rw [hcode.out]; first | done | rfl, hb⟩
end Go.Proofs.YtebgfelbffgnbaaGreatDoor
