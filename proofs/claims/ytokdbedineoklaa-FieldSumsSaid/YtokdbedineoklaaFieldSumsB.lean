/-
  Any two elements: one of the four cases.
-/
import Derived.Test.YtokdbedineoklaaFieldSumsA
namespace Go.Proofs.Ytokdbedineoklaa
open Go.ChangeShapes Go.WideShapes Go.ChangeAt Go.RowKit F Flow
set_option linter.unusedVariables false
attribute [local go_sem] eql_elem

set_option maxHeartbeats 8000000 in
theorem fs_one_other (n a b k : Int) (n0 : 0 ≤ n) (n1 : n ≤ 255) (hn : n % 2 = 0) (a0 : 0 ≤ a) (a1 : a < 340282366920938463463374607431768211456) (b0 : 0 ≤ b) (b1 : b < 340282366920938463463374607431768211456) (t0 : 0 ≤ k) (t1 : k < 18446744073709551616) (hz : redu 1 a ≠ 0) (w : World) :
    Calls Try.prog 3 #[.int .u8 n, .agg #[.int .u64 (lo a), .int .u64 (hi a)], .agg #[.int .u64 (lo b), .int .u64 (hi b)], .int .u64 k] w fun e w' => e = .returned (.bool true) ∧ Below w.heap.size w w' := by
  have hF := Lib.hid (F_even n hn n0 n1)
  have hfA := Lib.hid (fadd_one a b)
  have hfS := Lib.hid (fsub_one a b)
  have hfM := Lib.hid (fmul_one a b)
  have hfN := Lib.hid (fneg_one a)
  have hfP := Lib.hid (fpow_one a k t0 t1)
  have hfO := Lib.hid (fof_one k t0 t1)
  have hfI := fin_one a
  rw [show decide (0 ≤ a) = true by simpa using a0, Bool.and_true] at hfI
  replace hfI := Lib.hid hfI
  have hrA := add_any 1 (redu 1 a) (redu 1 b) (redu_nonneg _ _) (redu_mid _ _) (redu_nonneg _ _) (redu_mid _ _)
  rw [add_redu] at hrA
  have hrS := sub_any 1 (redu 1 a) (redu 1 b) (redu_nonneg _ _) (redu_mid _ _) (redu_nonneg _ _) (redu_mid _ _)
  rw [sub_redu] at hrS
  have hrM := mul_any 1 (redu 1 a) (redu 1 b) (redu_nonneg _ _) (redu_mid _ _) (redu_nonneg _ _) (redu_mid _ _)
  rw [mul_redu] at hrM
  have hrN := neg_any 1 (redu 1 a) (redu_nonneg _ _) (redu_mid _ _)
  rw [neg_redu] at hrN
  have hrP := pow_any 1 (redu 1 a) k (redu_nonneg _ _) (redu_mid _ _) t0 (by omega)
  rw [pow_redu, lo_of_lt t0 t1, hi_of_lt t0 t1] at hrP
  have hrO := of_any 1 k t0 (by omega)
  rw [lo_of_lt t0 t1, hi_of_lt t0 t1] at hrO
  replace hrA := Lib.hid hrA
  replace hrS := Lib.hid hrS
  replace hrM := Lib.hid hrM
  replace hrN := Lib.hid hrN
  replace hrP := Lib.hid hrP
  replace hrO := Lib.hid hrO
  have hd : (lo (redu 1 a) == 0 && hi (redu 1 a) == 0) = false := by rw [zero_iff (redu_nonneg 1 a)]; simpa using hz
  have hv := pow_bound 1 (lo a) 18446744069414584319
  rw [M1] at hv
  have hI := finv_one a _ 0 (ginv_other (lo a) (lo_nonneg a) (lo_lt a) (by rw [redu_lo1]; exact hz))
  have hone := inv_one (lo_nonneg a) (lo_lt a) (by rw [redu_lo1]; exact hz)
  generalize pow 1 (lo a) 18446744069414584319 = v at *
  have hmu : mul 1 (redu 1 a) v = 1 := (show mul 1 (redu 1 a) v = mul 1 (lo a) v by unfold mul; rw [redu_redu, redu_lo1]).trans hone
  have hinv := mul_any 1 (redu 1 a) v (redu_nonneg _ _) (redu_mid _ _) hv.1 (by omega)
  rw [hmu, lo_of_lt hv.1 (by omega), hi_of_lt hv.1 (by omega), show lo 1 = 1 from rfl, show hi 1 = 0 from rfl] at hinv
  replace hinv := Lib.hid hinv
  replace hI := Lib.hid hI
  clear hn hz hmu hone hv
  go_enter Try.func3, Try.ntmps3
  go_wp2_with fail
  refine name_calls (fun w1 => Below w.heap.size w w1 ∧ w1.heap[w.heap.size]? = some (.cells #[.int .u64 (lo a), .int .u64 (hi a)] 24 (0, 0)) ∧ w1.heap[w.heap.size + 1]? = some (.cells #[.int .u64 (lo b), .int .u64 (hi b)] 24 (0, 0)))
    ⟨((Below.refl _ _).alloc (Nat.le_refl _) _).alloc (by simp) _, alloc_keeps (alloc_at rfl), alloc_at (by simp)⟩ ?_
  rintro w1 ⟨hb, k0, k1⟩
  refine call_then (fawake_any _) ?_
  intro w2 hw2
  replace hb := below_next hb hb.size hw2
  replace k0 := keeps hw2 k0
  replace k1 := keeps hw2 k1
  clear hw2
  obtain ⟨c0, d0, f0, g0⟩ := blk2 k0
  obtain ⟨c1, d1, f1, g1⟩ := blk2 k1
  go_wp2_with fail
  refine call_then (hF.out _) ?_
  intro w2 hw2
  replace hb := below_next hb hb.size hw2
  replace k0 := keeps hw2 k0
  replace k1 := keeps hw2 k1
  clear hw2
  obtain ⟨c0, d0, f0, g0⟩ := blk2 k0
  obtain ⟨c1, d1, f1, g1⟩ := blk2 k1
  go_wp2_with fail
  refine call_then (hF.out _) ?_
  intro w2 hw2
  replace hb := below_next hb hb.size hw2
  replace k0 := keeps hw2 k0
  replace k1 := keeps hw2 k1
  clear hw2
  obtain ⟨c0, d0, f0, g0⟩ := blk2 k0
  obtain ⟨c1, d1, f1, g1⟩ := blk2 k1
  go_wp2_with fail
  refine wp_region_flow3 6 _ _ (.cells #[.int .u64 0, .int .u64 0] 24 (0, 0)) (.cells #[.int .u64 0, .int .u64 0] 24 (0, 0)) (by kernel_rfl) (by kernel_rfl) (by kernel_rfl) rfl rfl rfl rfl (fun _ _ => by simp [go_sem]) (fun _ _ => by simp [go_sem]) ?_
  apply Exists.intro
  refine ⟨fun ι _ φ hφ => ?_, fun w3 p q hw3 hpp hqq hpq kp kq => ?_⟩
  · obtain ⟨c0, d0⟩ := hφ.two k0
    obtain ⟨c1, d1⟩ := hφ.two k1
    simp only [List.take_succ_cons, List.take_zero]
    repeat (go_big_quiet_step ((first
      | (go_at_call 11; exact flow_call hφ (of_any 1 _ (by omega) (by omega) _)))))
    exact wpQuiet_nil rfl
  have hsz := lt_of_get k1
  replace hb := below_next hb hb.size hw3
  replace k0 := keeps hw3 k0
  replace k1 := keeps hw3 k1
  clear hw3
  have n0 : w.heap.size ≠ p := by omega
  have n1 : w.heap.size ≠ q := by omega
  have m0 : w.heap.size + 1 ≠ p := by omega
  have m1 : w.heap.size + 1 ≠ q := by omega
  obtain ⟨c0, d0, f0, g0⟩ := blk2 kp
  obtain ⟨c1, d1, f1, g1⟩ := blk2 kq
  obtain ⟨e0, e1, e2, e3⟩ := blk2 k0
  obtain ⟨o0, o1, o2, o3⟩ := blk2 k1
  have hqp : q ≠ p := Ne.symm hpq
  simp only [List.drop_succ_cons, List.drop_zero, Act.put]
  go_wp2_with fail
  refine name_calls (fun w1 => Below w.heap.size w w1 ∧ w1.heap[w.heap.size]? = some (.cells #[.int .u64 (lo a), .int .u64 (hi a)] 24 (0, 0)) ∧ w1.heap[w.heap.size + 1]? = some (.cells #[.int .u64 (lo b), .int .u64 (hi b)] 24 (0, 0)) ∧
      w1.heap[p]? = some (.cells #[.int .u64 (lo (redu 1 a)), .int .u64 (hi (redu 1 a))] 24 (0, 0)) ∧ w1.heap[q]? = some (.cells #[.int .u64 (lo (redu 1 b)), .int .u64 (hi (redu 1 b))] 24 (0, 0)))
    ⟨below_store2 (below_store2 hb (by omega)) (by omega), store2_far (store2_far k0 n0) n1, store2_far (store2_far k1 m0) m1, store2_far (store2 kp) hpq, store2 (store2_far kq hqp)⟩ ?_
  clear hb k0 k1 kp kq c0 d0 f0 g0 c1 d1 f1 g1 e0 e1 e2 e3 o0 o1 o2 o3 n0 n1 m0 m1 hqp hsz
  rintro w4 ⟨hb, k0, k1, kp, kq⟩
  refine call_then (hI.out _) ?_
  intro w5 hw5
  replace hb := below_next hb hb.size hw5
  replace k0 := keeps hw5 k0
  replace k1 := keeps hw5 k1
  replace kp := keeps hw5 kp
  replace kq := keeps hw5 kq
  clear hw5
  have s0 : p < w5.heap.size := lt_of_get kp
  have s1 : p ≠ w5.heap.size := Nat.ne_of_lt s0
  obtain ⟨c0, d0, f0, g0⟩ := blk2 kp
  go_wp2_with fail
  refine name_calls (fun w6 => Below w.heap.size w w6 ∧ w6.heap[w.heap.size]? = some (.cells #[.int .u64 (lo a), .int .u64 (hi a)] 24 (0, 0)) ∧ w6.heap[w.heap.size + 1]? = some (.cells #[.int .u64 (lo b), .int .u64 (hi b)] 24 (0, 0)) ∧
      w6.heap[p]? = some (.cells #[.int .u64 (lo (redu 1 a)), .int .u64 (hi (redu 1 a))] 24 (0, 0)) ∧ w6.heap[q]? = some (.cells #[.int .u64 (lo (redu 1 b)), .int .u64 (hi (redu 1 b))] 24 (0, 0)))
    ⟨hb.alloc hb.size _, alloc_keeps k0, alloc_keeps k1, alloc_keeps kp, alloc_keeps kq⟩ ?_
  clear hb k0 k1 kp kq s0 s1 c0 d0 f0 g0
  rintro w6 ⟨hb, k0, k1, kp, kq⟩
  refine call_then (hinv.out _) ?_
  intro w7 hw7
  replace hb := below_next hb hb.size hw7
  replace k0 := keeps hw7 k0
  replace k1 := keeps hw7 k1
  replace kp := keeps hw7 kp
  replace kq := keeps hw7 kq
  clear hw7
  go_wp2
  refine wp_region_flow0 (by kernel_rfl) (by kernel_rfl) ?_
  intro ι _ φ hφ
  obtain ⟨c0, d0⟩ := hφ.two k0
  obtain ⟨c1, d1⟩ := hφ.two k1
  obtain ⟨c2, d2⟩ := hφ.two kp
  obtain ⟨c3, d3⟩ := hφ.two kq
  simp only [List.append]
  repeat (go_big_quiet_step ((first
    | (go_at_call 14; exact flow_call hφ (hfA.out _))
    | (go_at_call 16; exact flow_call hφ (hfS.out _))
    | (go_at_call 20; exact flow_call hφ (hfM.out _))
    | (go_at_call 18; exact flow_call hφ (hfN.out _))
    | (go_at_call 21; exact flow_call hφ (hfP.out _))
    | (go_at_call 23; exact flow_call hφ (hfO.out _))
    | (go_at_call 15; exact flow_call hφ (hrA.out _))
    | (go_at_call 17; exact flow_call hφ (hrS.out _))
    | (go_at_call 13; exact flow_call hφ (hrM.out _))
    | (go_at_call 19; exact flow_call hφ (hrN.out _))
    | (go_at_call 22; exact flow_call hφ (hrP.out _))
    | (go_at_call 11; exact flow_call hφ (hrO.out _))
    | (go_at_call 24; exact flow_call hφ (fone_any _ (by omega) _))
    | (go_at_call 25; exact flow_call hφ (hfI.out _))
    | (go_at_call 26; exact flow_call hφ (rin_one _ _))
    | (go_at_call 27; exact flow_call hφ (fsize_one _))
    | (go_at_call 28; exact flow_call hφ (rsize_one _))
    | (go_at_call 29; exact flow_call hφ (fvalid_one _)))))
  refine wpQuiet_nil ?_
  intro w9 hw9
  clear c0 d0 c1 d1 c2 d2 c3 d3 hφ
  go_wp2
  go_ret
  exact ⟨rfl, below_next hb hb.size hw9⟩
end Go.Proofs.Ytokdbedineoklaa
