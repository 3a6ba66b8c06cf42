/-
  The document's circuits: Check, of whatever kind and field.
-/
import Derived.Test.YtebgfelbffgnbaaGreatDoorCiE
import Derived.Test.YtebgfelbffgnbaaGreatDoorCiF
namespace Go.Proofs.YtebgfelbffgnbaaGreatDoor
open Go.RowKit Flow
set_option linter.unusedVariables false
set_option linter.unusedSimpArgs false

theorem rcheck_field (k f b l W c : Int) (hf : ¬ (f = 1 ∨ f = 2)) (w : World) : Calls Tryz.prog 46 #[.agg #[.int .i64 k, .int .i64 f, .int .i64 b, .int .i64 l, .int .i64 W, .int .i64 c]] w fun e w' => e = .returned (.int .i64 ((Ci.mk k f b l W c).code)) ∧ Below w.heap.size w w' := by
  have hcode : (Ci.mk k f b l W c).code = 7 := by simp [Ci.code, hf]
  have f1 : f ≠ 1 := fun h => hf (.inl h)
  have f2 : f ≠ 2 := fun h => hf (.inr h)
  have e1 : (f == 1) = false := by simpa using f1
  have e2 : (f == 2) = false := by simpa using f2
  have g1 : (f != 1) = true := by simpa using f1
  have g2 : (f != 2) = true := by simpa using f2
  replace hcode := Lib.hid hcode
  go_enter Tryz.func46, Tryz.ntmps46
  go_upto_region 1 with (fail)
  refine name_wp (fun w1 => Below w.heap.size w w1 ∧ w1.heap[w.heap.size]? = some (.cells #[.int .i64 k, .int .i64 f, .int .i64 b, .int .i64 l, .int .i64 W, .int .i64 c] 80 (0, 0))) ⟨(Below.refl _ _).alloc (Nat.le_refl _) _, alloc_at rfl⟩ ?_
  rintro w1 ⟨hb, k0⟩
  obtain ⟨c0, c1, c2, c3, c4, c5⟩ := blk6 k0
  go_wp2
  go_ret
  exact ⟨by rw [hcode.out]; first | done | rfl, hb⟩
theorem rcheck_kind (k f b l W c : Int) (hf : f = 1 ∨ f = 2) (hk : ¬ (1 ≤ k ∧ k ≤ 5)) (w : World) : Calls Tryz.prog 46 #[.agg #[.int .i64 k, .int .i64 f, .int .i64 b, .int .i64 l, .int .i64 W, .int .i64 c]] w fun e w' => e = .returned (.int .i64 ((Ci.mk k f b l W c).code)) ∧ Below w.heap.size w w' := by
  have hcode : (Ci.mk k f b l W c).code = 10 := by simp only [Ci.code, if_pos hf, if_neg hk]
  replace hcode := Lib.hid hcode
  by_cases h1 : k < 1
  · have b1 : decide (k < 1) = true := by simpa using h1
    rcases hf with rfl | rfl
    · obtain ⟨f, hf⟩ : ∃ f : Int, f = 1 := ⟨_, rfl⟩
      rw [← hf] at hcode ⊢
      have g1 : (f != 1) = false := by simp [hf]
      replace hf := Lib.hid hf
      go_enter Tryz.func46, Tryz.ntmps46
      go_upto_region 1 with (fail)
      refine name_wp (fun w1 => Below w.heap.size w w1 ∧ w1.heap[w.heap.size]? = some (.cells #[.int .i64 k, .int .i64 f, .int .i64 b, .int .i64 l, .int .i64 W, .int .i64 c] 80 (0, 0))) ⟨(Below.refl _ _).alloc (Nat.le_refl _) _, alloc_at rfl⟩ ?_
      rintro w1 ⟨hb, k0⟩
      obtain ⟨c0, c1, c2, c3, c4, c5⟩ := blk6 k0
      go_wp2
      go_ret
      exact ⟨by rw [hcode.out]; first | done | rfl, hb⟩
    · obtain ⟨f, hf⟩ : ∃ f : Int, f = 2 := ⟨_, rfl⟩
      rw [← hf] at hcode ⊢
      have g1 : (f != 1) = true := by simp [hf]
      have g2 : (f != 2) = false := by simp [hf]
      replace hf := Lib.hid hf
      go_enter Tryz.func46, Tryz.ntmps46
      go_upto_region 1 with (fail)
      refine name_wp (fun w1 => Below w.heap.size w w1 ∧ w1.heap[w.heap.size]? = some (.cells #[.int .i64 k, .int .i64 f, .int .i64 b, .int .i64 l, .int .i64 W, .int .i64 c] 80 (0, 0))) ⟨(Below.refl _ _).alloc (Nat.le_refl _) _, alloc_at rfl⟩ ?_
      rintro w1 ⟨hb, k0⟩
      obtain ⟨c0, c1, c2, c3, c4, c5⟩ := blk6 k0
      go_wp2
      go_ret
      exact ⟨by rw [hcode.out]; first | done | rfl, hb⟩
  · have b1 : decide (k < 1) = false := by simpa using h1
    have b2 : decide (k > 5) = true := by rw [decide_eq_true_eq]; omega
    rcases hf with rfl | rfl
    · obtain ⟨f, hf⟩ : ∃ f : Int, f = 1 := ⟨_, rfl⟩
      rw [← hf] at hcode ⊢
      have g1 : (f != 1) = false := by simp [hf]
      replace hf := Lib.hid hf
      go_enter Tryz.func46, Tryz.ntmps46
      go_upto_region 1 with (fail)
      refine name_wp (fun w1 => Below w.heap.size w w1 ∧ w1.heap[w.heap.size]? = some (.cells #[.int .i64 k, .int .i64 f, .int .i64 b, .int .i64 l, .int .i64 W, .int .i64 c] 80 (0, 0))) ⟨(Below.refl _ _).alloc (Nat.le_refl _) _, alloc_at rfl⟩ ?_
      rintro w1 ⟨hb, k0⟩
      obtain ⟨c0, c1, c2, c3, c4, c5⟩ := blk6 k0
      go_wp2
      go_ret
      exact ⟨by rw [hcode.out]; first | done | rfl, hb⟩
    · obtain ⟨f, hf⟩ : ∃ f : Int, f = 2 := ⟨_, rfl⟩
      rw [← hf] at hcode ⊢
      have g1 : (f != 1) = true := by simp [hf]
      have g2 : (f != 2) = false := by simp [hf]
      replace hf := Lib.hid hf
      go_enter Tryz.func46, Tryz.ntmps46
      go_upto_region 1 with (fail)
      refine name_wp (fun w1 => Below w.heap.size w w1 ∧ w1.heap[w.heap.size]? = some (.cells #[.int .i64 k, .int .i64 f, .int .i64 b, .int .i64 l, .int .i64 W, .int .i64 c] 80 (0, 0))) ⟨(Below.refl _ _).alloc (Nat.le_refl _) _, alloc_at rfl⟩ ?_
      rintro w1 ⟨hb, k0⟩
      obtain ⟨c0, c1, c2, c3, c4, c5⟩ := blk6 k0
      go_wp2
      go_ret
      exact ⟨by rw [hcode.out]; first | done | rfl, hb⟩
/-- The document's Check. -/
theorem rcheck_any (k f b l W c : Int) (w : World) : Calls Tryz.prog 46 #[.agg #[.int .i64 k, .int .i64 f, .int .i64 b, .int .i64 l, .int .i64 W, .int .i64 c]] w fun e w' => e = .returned (.int .i64 ((Ci.mk k f b l W c).code)) ∧ Below w.heap.size w w' := by
  by_cases hf : f = 1 ∨ f = 2
  · by_cases hk : 1 ≤ k ∧ k ≤ 5
    · have h5 : k = 1 ∨ k = 2 ∨ k = 3 ∨ k = 4 ∨ k = 5 := by omega
      rcases hf with rfl | rfl
      · rcases h5 with rfl | rfl | rfl | rfl | rfl
        · exact rcheck_1_1 b l W c w
        · exact rcheck_2_1 b l W c w
        · exact rcheck_3_1 b l W c w
        · exact rcheck_4_1 b l W c w
        · exact rcheck_5_1 b l W c w
      · rcases h5 with rfl | rfl | rfl | rfl | rfl
        · exact rcheck_1_2 b l W c w
        · exact rcheck_2_2 b l W c w
        · exact rcheck_3_2 b l W c w
        · exact rcheck_4_2 b l W c w
        · exact rcheck_5_2 b l W c w
    · exact rcheck_kind k f b l W c hf hk w
  · exact rcheck_field k f b l W c hf w
end Go.Proofs.YtebgfelbffgnbaaGreatDoor
