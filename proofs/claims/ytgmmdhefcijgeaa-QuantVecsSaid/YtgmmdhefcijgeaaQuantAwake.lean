/-
  Law 8's own first step.
-/
import Derived.Test.YtgmmdhefcijgeaaFloatB
namespace Go.Proofs.Ytgmmdhefcijgeaa
open Go.RowKit Flow
set_option linter.unusedVariables false
attribute [local go_sem] bits_run from_run

theorem abs_low (w : World) : Calls Try.prog 13 #[.float .f64 13830554455654793216] w fun e w' => e = .returned (.float .f64 4607182418800017408) ∧ Below w.heap.size w w' := by
  have h : ∀ w : World, (binOp .andNot 51 (.int .u64 13830554455654793216) (.int .u64 9223372036854775808)).run Try.prog w = .ok (.int .u64 4607182418800017408) w := fun w => by kernel_rfl
  go_enter Try.func13, Try.ntmps13
  go_wp2
  go_ret
  exact ⟨rfl, Below.refl _ _⟩
theorem isinf_low (w : World) : Calls Try.prog 34 #[.float .f64 13830554455654793216, .int .i64 0] w fun e w' => e = .returned (.bool false) ∧ Below w.heap.size w w' := by
  have h : (FloatKind.f64.format.order 4607182418800017408 9218868437227405311 == some .gt) = false := by decide +kernel
  go_enter Try.func34, Try.ntmps34
  go_wp2_with fail
  refine call_then (abs_low _) ?_
  intro w2 hb
  go_wp2
  go_ret
  exact ⟨rfl, hb⟩
theorem finite_low (w : World) : Calls Try.prog 31 #[.float .f64 13830554455654793216] w fun e w' => e = .returned (.bool true) ∧ Below w.heap.size w w' := by
  have h := isnan_any 13830554455654793216
  rw [show isNan 13830554455654793216 = false by decide +kernel] at h
  replace h := Lib.hid h
  go_enter Try.func31, Try.ntmps31
  go_wp2_with fail
  refine call_then (h.out _) ?_
  intro w2 hb
  go_wp2_with fail
  refine call_then (isinf_low _) ?_
  intro w3 hb3
  replace hb := below_next hb hb.size hb3
  go_wp2
  go_ret
  exact ⟨rfl, hb⟩
theorem abs_step (w : World) : Calls Try.prog 13 #[.float .f64 4602678819172646912] w fun e w' => e = .returned (.float .f64 4602678819172646912) ∧ Below w.heap.size w w' := by
  have h : ∀ w : World, (binOp .andNot 51 (.int .u64 4602678819172646912) (.int .u64 9223372036854775808)).run Try.prog w = .ok (.int .u64 4602678819172646912) w := fun w => by kernel_rfl
  go_enter Try.func13, Try.ntmps13
  go_wp2
  go_ret
  exact ⟨rfl, Below.refl _ _⟩
theorem isinf_step (w : World) : Calls Try.prog 34 #[.float .f64 4602678819172646912, .int .i64 0] w fun e w' => e = .returned (.bool false) ∧ Below w.heap.size w w' := by
  have h : (FloatKind.f64.format.order 4602678819172646912 9218868437227405311 == some .gt) = false := by decide +kernel
  go_enter Try.func34, Try.ntmps34
  go_wp2_with fail
  refine call_then (abs_step _) ?_
  intro w2 hb
  go_wp2
  go_ret
  exact ⟨rfl, hb⟩
theorem finite_step (w : World) : Calls Try.prog 31 #[.float .f64 4602678819172646912] w fun e w' => e = .returned (.bool true) ∧ Below w.heap.size w w' := by
  have h := isnan_any 4602678819172646912
  rw [show isNan 4602678819172646912 = false by decide +kernel] at h
  replace h := Lib.hid h
  go_enter Try.func31, Try.ntmps31
  go_wp2_with fail
  refine call_then (h.out _) ?_
  intro w2 hb
  go_wp2_with fail
  refine call_then (isinf_step _) ?_
  intro w3 hb3
  replace hb := below_next hb hb.size hb3
  go_wp2
  go_ret
  exact ⟨rfl, hb⟩
theorem abs_high (w : World) : Calls Try.prog 13 #[.float .f64 4607182418800017408] w fun e w' => e = .returned (.float .f64 4607182418800017408) ∧ Below w.heap.size w w' := by
  have h : ∀ w : World, (binOp .andNot 51 (.int .u64 4607182418800017408) (.int .u64 9223372036854775808)).run Try.prog w = .ok (.int .u64 4607182418800017408) w := fun w => by kernel_rfl
  go_enter Try.func13, Try.ntmps13
  go_wp2
  go_ret
  exact ⟨rfl, Below.refl _ _⟩
theorem isinf_high (w : World) : Calls Try.prog 34 #[.float .f64 4607182418800017408, .int .i64 0] w fun e w' => e = .returned (.bool false) ∧ Below w.heap.size w w' := by
  have h : (FloatKind.f64.format.order 4607182418800017408 9218868437227405311 == some .gt) = false := by decide +kernel
  go_enter Try.func34, Try.ntmps34
  go_wp2_with fail
  refine call_then (abs_high _) ?_
  intro w2 hb
  go_wp2
  go_ret
  exact ⟨rfl, hb⟩
theorem finite_high (w : World) : Calls Try.prog 31 #[.float .f64 4607182418800017408] w fun e w' => e = .returned (.bool true) ∧ Below w.heap.size w w' := by
  have h := isnan_any 4607182418800017408
  rw [show isNan 4607182418800017408 = false by decide +kernel] at h
  replace h := Lib.hid h
  go_enter Try.func31, Try.ntmps31
  go_wp2_with fail
  refine call_then (h.out _) ?_
  intro w2 hb
  go_wp2_with fail
  refine call_then (isinf_high _) ?_
  intro w3 hb3
  replace hb := below_next hb hb.size hb3
  go_wp2
  go_ret
  exact ⟨rfl, hb⟩
theorem line_high (w : World) : Calls Try.prog 25 #[.float .f64 13830554455654793216, .float .f64 4607182418800017408, .float .f64 4602678819172646912, .float .f64 4616189618054758400] w fun e w' => e = .returned (.float .f64 4607182418800017408) ∧ Below w.heap.size w w' := by
  have m1 : ∀ w : World, (binOp .mul 27 (.float .f64 13830554455654793216) (.float .f64 4607182418800017408)).run Try.prog w = .ok (.float .f64 13830554455654793216) w := fun w => by kernel_rfl
  have m2 : ∀ w : World, (binOp .mul 27 (.float .f64 4602678819172646912) (.float .f64 4616189618054758400)).run Try.prog w = .ok (.float .f64 4611686018427387904) w := fun w => by kernel_rfl
  have m3 : ∀ w : World, (binOp .add 27 (.float .f64 13830554455654793216) (.float .f64 4611686018427387904)).run Try.prog w = .ok (.float .f64 4607182418800017408) w := fun w => by kernel_rfl
  have h := unsigned_any 4607182418800017408
  rw [show unsig 4607182418800017408 = 4607182418800017408 by decide +kernel] at h
  replace h := Lib.hid h
  go_enter Try.func25, Try.ntmps25
  go_wp2_with fail
  refine call_then (h.out _) ?_
  intro w2 hb
  go_wp2
  go_ret
  exact ⟨rfl, hb⟩
/-- The example's scale. -/
def exScale : List Value := [.float .f64 13830554455654793216, .float .f64 4602678819172646912, .int .u32 4]
theorem blkS {w : World} {p : Nat} {t : TypeId} {u v x : Value} (h : w.heap[p]? = some (.cells #[u, v, x] t (0, 0))) :
    w.cell? ⟨p, 0, none⟩ = some u ∧ w.cell? ⟨p, 1, none⟩ = some v ∧ w.cell? ⟨p, 2, none⟩ = some x := by
  simp [World.cell?, h]
theorem conv_four (w : World) : (convert 25 27 (.int .u32 4)).run Try.prog w = .ok (.float .f64 4616189618054758400) w := by kernel_rfl
set_option maxHeartbeats 1000000 in
theorem high_ex (w : World) : Calls Try.prog 12 #[.agg #[.float .f64 13830554455654793216, .float .f64 4602678819172646912, .int .u32 4]] w fun e w' => e = .returned (.float .f64 4607182418800017408) ∧ Below w.heap.size w w' := by
  have c4 := conv_four
  go_enter Try.func12, Try.ntmps12
  go_wp2_with fail
  refine call_then (line_high _) ?_
  intro w2 hb
  replace hb := below_next ((Below.refl w.heap.size w).alloc (Nat.le_refl _) _) (by simp) hb
  go_wp2
  go_ret
  exact ⟨rfl, hb⟩
theorem isnan_no (x : Nat) (h : isNan x = false) (w : World) : Calls Try.prog 26 #[.float .f64 x] w fun e w' => e = .returned (.bool false) ∧ Below w.heap.size w w' := by
  have := isnan_any x w
  rw [h] at this
  exact this
theorem round_run (w : World) : (callFunc 27 #[.float .f64 4609434218613702656]).run Try.prog w = .ok (.value (.float .f64 4611686018427387904)) w := by
  rw [run_callFunc_extern Try.func27 (by kernel_rfl) (by kernel_rfl) (by kernel_rfl) (e := Extern.MathFloor.toIntegral "math.RoundToEven" .even) (by kernel_rfl)]
  rw [show (Extern.MathFloor.toIntegral "math.RoundToEven" .even #[.float .f64 4609434218613702656]).run Try.prog w = .ok (.float .f64 4611686018427387904) w by kernel_rfl]
  rfl
set_option maxHeartbeats 2000000 in
theorem check_ex (w : World) : Calls Try.prog 24 #[.agg #[.float .f64 13830554455654793216, .float .f64 4602678819172646912, .int .u32 4]] w fun e w' => e = .returned (.int .i64 0) ∧ Below w.heap.size w w' := by
  have o1 : (FloatKind.f64.format.order 4602678819172646912 0 == some .lt || FloatKind.f64.format.order 4602678819172646912 0 == some .eq) = false := by decide +kernel
  go_enter Try.func24, Try.ntmps24
  go_upto_region 1 with (fail)
  refine name_wp (fun w1 => Below w.heap.size w w1 ∧ w1.heap[w.heap.size]? = some (.cells #[.float .f64 13830554455654793216, .float .f64 4602678819172646912, .int .u32 4] 29 (0, 0))) ⟨(Below.refl _ _).alloc (Nat.le_refl _) _, alloc_at rfl⟩ ?_
  rintro w1 ⟨hb, kx⟩
  obtain ⟨c0, c1, c2⟩ := blkS kx
  go_wp2_with fail
  refine call_then (isnan_no _ (by decide +kernel) _) ?_
  clear c0 c1 c2
  intro w2 hb2
  replace hb := below_next hb hb.size hb2
  replace kx := keeps hb2 kx
  clear hb2
  obtain ⟨c0, c1, c2⟩ := blkS kx
  go_wp2_with fail
  refine call_then (isnan_no _ (by decide +kernel) _) ?_
  clear c0 c1 c2
  intro w2 hb2
  replace hb := below_next hb hb.size hb2
  replace kx := keeps hb2 kx
  clear hb2
  obtain ⟨c0, c1, c2⟩ := blkS kx
  go_wp2_with fail
  refine call_then (finite_low _) ?_
  clear c0 c1 c2
  intro w2 hb2
  replace hb := below_next hb hb.size hb2
  replace kx := keeps hb2 kx
  clear hb2
  obtain ⟨c0, c1, c2⟩ := blkS kx
  go_wp2_with fail
  refine call_then (finite_step _) ?_
  clear c0 c1 c2
  intro w2 hb2
  replace hb := below_next hb hb.size hb2
  replace kx := keeps hb2 kx
  clear hb2
  obtain ⟨c0, c1, c2⟩ := blkS kx
  go_wp2_with fail
  refine call_then (high_ex _) ?_
  clear c0 c1 c2
  intro w2 hb2
  replace hb := below_next hb hb.size hb2
  replace kx := keeps hb2 kx
  clear hb2
  obtain ⟨c0, c1, c2⟩ := blkS kx
  go_wp2_with fail
  refine call_then (finite_high _) ?_
  clear c0 c1 c2
  intro w2 hb2
  replace hb := below_next hb hb.size hb2
  replace kx := keeps hb2 kx
  clear hb2
  obtain ⟨c0, c1, c2⟩ := blkS kx
  go_wp2
  go_ret
  exact ⟨rfl, hb⟩
set_option maxHeartbeats 2000000 in
theorem whole_ex (w : World) : Calls Try.prog 10 #[.agg #[.float .f64 13830554455654793216, .float .f64 4602678819172646912, .int .u32 4], .float .f64 13821547256400052224] w fun e w' => e = .returned (.tuple #[.int .u32 2, .int .i64 0]) ∧ Below w.heap.size w w' := by
  have c4 := conv_four
  have rr := round_run
  have s1 : ∀ w : World, (binOp .sub 27 (.float .f64 13821547256400052224) (.float .f64 13830554455654793216)).run Try.prog w = .ok (.float .f64 4604930618986332160) w := fun w => by kernel_rfl
  have s2 : ∀ w : World, (binOp .quo 27 (.float .f64 4604930618986332160) (.float .f64 4602678819172646912)).run Try.prog w = .ok (.float .f64 4609434218613702656) w := fun w => by kernel_rfl
  have o1 : (FloatKind.f64.format.order 4611686018427387904 0 == some .lt) = false := by decide +kernel
  have o2 : (FloatKind.f64.format.order 4611686018427387904 4616189618054758400 == some .gt) = false := by decide +kernel
  have cv : ∀ w : World, (convert 27 25 (.float .f64 4611686018427387904)).run Try.prog w = .ok (.int .u32 2) w := fun w => by kernel_rfl
  go_enter Try.func10, Try.ntmps10
  go_upto_region 1 with (fail)
  refine name_wp (fun w1 => Below w.heap.size w w1 ∧ w1.heap[w.heap.size]? = some (.cells #[.float .f64 13830554455654793216, .float .f64 4602678819172646912, .int .u32 4] 29 (0, 0))) ⟨(Below.refl _ _).alloc (Nat.le_refl _) _, alloc_at rfl⟩ ?_
  rintro w1 ⟨hb, kx⟩
  obtain ⟨c0, c1, c2⟩ := blkS kx
  go_wp2_with fail
  refine call_then (check_ex _) ?_
  clear c0 c1 c2
  intro w2 hb2
  replace hb := below_next hb hb.size hb2
  replace kx := keeps hb2 kx
  clear hb2
  obtain ⟨c0, c1, c2⟩ := blkS kx
  go_wp2_with fail
  refine call_then (isnan_no _ (by decide +kernel) _) ?_
  clear c0 c1 c2
  intro w2 hb2
  replace hb := below_next hb hb.size hb2
  replace kx := keeps hb2 kx
  clear hb2
  obtain ⟨c0, c1, c2⟩ := blkS kx
  go_wp2
  exact bodyPost_ret (v := .tuple #[.int .u32 2, .int .i64 0]) (by simp [results, Try.results10, go_sem]) rfl ⟨rfl, hb⟩
theorem quant_awake (w : World) : Calls Try.prog 7 #[] w fun e w' => e = .returned (.bool true) ∧ Below w.heap.size w w' := by
  go_enter Try.func7, Try.ntmps7
  go_wp2_with fail
  refine call_then (whole_ex _) ?_
  intro w2 hb
  go_wp2
  go_ret
  exact ⟨rfl, hb⟩
end Go.Proofs.Ytgmmdhefcijgeaa
