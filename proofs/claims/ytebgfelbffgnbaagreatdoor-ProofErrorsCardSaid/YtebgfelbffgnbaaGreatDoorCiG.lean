/-
  The program's circuits: Check, of whatever kind and field.
-/
import Derived.Test.YtebgfelbffgnbaaGreatDoorCiB
namespace Go.Proofs.YtebgfelbffgnbaaGreatDoor
open Go.RowKit Flow
set_option linter.unusedVariables false
set_option linter.unusedSimpArgs false

theorem ccheck_field (k f b l W c : Int) (hf : ¬ (f = 1 ∨ f = 2)) (w : World) : Calls Tryz.prog 48 #[.agg #[.int .u8 k, .int .u8 f, .int .i64 b, .int .i64 l, .int .i64 W, .int .i64 c]] w fun e w' => e = .returned (.int .i64 ((Ci.mk k f b l W c).code)) ∧ Below w.heap.size w w' := by
  have hV := fun w => fvalid_any f w
  rw [show decide (f = 1 ∨ f = 2) = false by simpa using hf] at hV
  have hcode : (Ci.mk k f b l W c).code = 7 := by simp [Ci.code, hf]
  replace hV := Lib.hid hV
  replace hcode := Lib.hid hcode
  go_enter Tryz.func48, Tryz.ntmps48
  go_upto_region 1 with (fail)
  refine name_wp (fun w1 => Below w.heap.size w w1 ∧ w1.heap[w.heap.size]? = some (.cells #[.int .u8 k, .int .u8 f, .int .i64 b, .int .i64 l, .int .i64 W, .int .i64 c] 33 (0, 0))) ⟨(Below.refl _ _).alloc (Nat.le_refl _) _, alloc_at rfl⟩ ?_
  rintro w1 ⟨hb, k0⟩
  obtain ⟨c0, c1, c2, c3, c4, c5⟩ := blk6 k0
  go_wp2_with fail
  refine call_then (hV.out _) ?_
  intro w2 hb2
  replace hb := below_next hb hb.size hb2
  replace k0 := keeps hb2 k0
  clear hb2 c0 c1 c2 c3 c4 c5
  obtain ⟨c0, c1, c2, c3, c4, c5⟩ := blk6 k0
  go_wp2
  go_ret
  exact ⟨by rw [hcode.out]; first | done | rfl, hb⟩
theorem ccheck_kind (k f b l W c : Int) (hf : f = 1 ∨ f = 2) (hk : ¬ (1 ≤ k ∧ k ≤ 5)) (w : World) : Calls Tryz.prog 48 #[.agg #[.int .u8 k, .int .u8 f, .int .i64 b, .int .i64 l, .int .i64 W, .int .i64 c]] w fun e w' => e = .returned (.int .i64 ((Ci.mk k f b l W c).code)) ∧ Below w.heap.size w w' := by
  have hV := fun w => fvalid_any f w
  rw [show decide (f = 1 ∨ f = 2) = true by simpa using hf] at hV
  have hcode : (Ci.mk k f b l W c).code = 10 := by simp only [Ci.code, if_pos hf, if_neg hk]
  replace hV := Lib.hid hV
  replace hcode := Lib.hid hcode
  by_cases h1 : k < 1
  · have b1 : decide (k < 1) = true := by simpa using h1
    go_enter Tryz.func48, Tryz.ntmps48
    go_upto_region 1 with (fail)
    refine name_wp (fun w1 => Below w.heap.size w w1 ∧ w1.heap[w.heap.size]? = some (.cells #[.int .u8 k, .int .u8 f, .int .i64 b, .int .i64 l, .int .i64 W, .int .i64 c] 33 (0, 0))) ⟨(Below.refl _ _).alloc (Nat.le_refl _) _, alloc_at rfl⟩ ?_
    rintro w1 ⟨hb, k0⟩
    obtain ⟨c0, c1, c2, c3, c4, c5⟩ := blk6 k0
    go_wp2_with fail
    refine call_then (hV.out _) ?_
    intro w2 hb2
    replace hb := below_next hb hb.size hb2
    replace k0 := keeps hb2 k0
    clear hb2 c0 c1 c2 c3 c4 c5
    obtain ⟨c0, c1, c2, c3, c4, c5⟩ := blk6 k0
    go_wp2
    go_ret
    exact ⟨by rw [hcode.out]; first | done | rfl, hb⟩
  · have b1 : decide (k < 1) = false := by simpa using h1
    have b2 : decide (k > 5) = true := by rw [decide_eq_true_eq]; omega
    go_enter Tryz.func48, Tryz.ntmps48
    go_upto_region 1 with (fail)
    refine name_wp (fun w1 => Below w.heap.size w w1 ∧ w1.heap[w.heap.size]? = some (.cells #[.int .u8 k, .int .u8 f, .int .i64 b, .int .i64 l, .int .i64 W, .int .i64 c] 33 (0, 0))) ⟨(Below.refl _ _).alloc (Nat.le_refl _) _, alloc_at rfl⟩ ?_
    rintro w1 ⟨hb, k0⟩
    obtain ⟨c0, c1, c2, c3, c4, c5⟩ := blk6 k0
    go_wp2_with fail
    refine call_then (hV.out _) ?_
    intro w2 hb2
    replace hb := below_next hb hb.size hb2
    replace k0 := keeps hb2 k0
    clear hb2 c0 c1 c2 c3 c4 c5
    obtain ⟨c0, c1, c2, c3, c4, c5⟩ := blk6 k0
    go_wp2
    go_ret
    exact ⟨by rw [hcode.out]; first | done | rfl, hb⟩
/-- The program's Check. -/
theorem ccheck_any (k f b l W c : Int) (w : World) : Calls Tryz.prog 48 #[.agg #[.int .u8 k, .int .u8 f, .int .i64 b, .int .i64 l, .int .i64 W, .int .i64 c]] w fun e w' => e = .returned (.int .i64 ((Ci.mk k f b l W c).code)) ∧ Below w.heap.size w w' := by
  by_cases hf : f = 1 ∨ f = 2
  · by_cases hk : 1 ≤ k ∧ k ≤ 5
    · have h5 : k = 1 ∨ k = 2 ∨ k = 3 ∨ k = 4 ∨ k = 5 := by omega
      rcases h5 with rfl | rfl | rfl | rfl | rfl
      · exact ccheck_1 f b l W c hf w
      · exact ccheck_2 f b l W c hf w
      · exact ccheck_3 f b l W c hf w
      · exact ccheck_4 f b l W c hf w
      · exact ccheck_5 f b l W c hf w
    · exact ccheck_kind k f b l W c hf hk w
  · exact ccheck_field k f b l W c hf w
end Go.Proofs.YtebgfelbffgnbaaGreatDoor
