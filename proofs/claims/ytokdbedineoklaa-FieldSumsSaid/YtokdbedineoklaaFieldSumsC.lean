/-
  Any two elements: one of the four cases.
-/
import Derived.Test.YtokdbedineoklaaFieldSumsA
namespace Go.Proofs.Ytokdbedineoklaa
open Go.ChangeShapes Go.WideShapes Go.ChangeAt Go.RowKit F Flow
set_option linter.unusedVariables false
attribute [local go_sem] eql_elem

set_option maxHeartbeats 8000000 in
theorem fs_two_zero (n a b k : Int) (n0 : 0 ≤ n) (n1 : n ≤ 255) (hn : n % 2 = 1) (a0 : 0 ≤ a) (a1 : a < 340282366920938463463374607431768211456) (b0 : 0 ≤ b) (b1 : b < 340282366920938463463374607431768211456) (t0 : 0 ≤ k) (t1 : k < 18446744073709551616) (hz : redu 2 a = 0) (w : World) :
    Calls Try.prog 3 #[.int .u8 n, .agg #[.int .u64 (lo a), .int .u64 (hi a)], .agg #[.int .u64 (lo b), .int .u64 (hi b)], .int .u64 k] w fun e w' => e = .returned (.bool true) ∧ Below w.heap.size w w' := by
  have hF := Lib.hid (F_odd n hn n0 n1)
  have hfA := Lib.hid (fadd_two a b a0 a1 b0 b1)
  have hfS := Lib.hid (fsub_two a b a0 a1 b0 b1)
  have hfM := Lib.hid (fmul_two a b a0 a1 b0 b1)
  have hfN := Lib.hid (fneg_two a a0 a1)
  have hfP := Lib.hid (fpow_two a k a0 a1 t0 t1)
  have hfO := Lib.hid (fof_two k t0 t1)
  have hfI := Lib.hid (fin_two a)
  have hrA := add_any 2 (redu 2 a) (redu 2 b) (redu_nonneg _ _) (redu_mid _ _) (redu_nonneg _ _) (redu_mid _ _)
  rw [add_redu] at hrA
  have hrS := sub_any 2 (redu 2 a) (redu 2 b) (redu_nonneg _ _) (redu_mid _ _) (redu_nonneg _ _) (redu_mid _ _)
  rw [sub_redu] at hrS
  have hrM := mul_any 2 (redu 2 a) (redu 2 b) (redu_nonneg _ _) (redu_mid _ _) (redu_nonneg _ _) (redu_mid _ _)
  rw [mul_redu] at hrM
  have hrN := neg_any 2 (redu 2 a) (redu_nonneg _ _) (redu_mid _ _)
  rw [neg_redu] at hrN
  have hrP := pow_any 2 (redu 2 a) k (redu_nonneg _ _) (redu_mid _ _) t0 (by omega)
  rw [pow_redu, lo_of_lt t0 t1, hi_of_lt t0 t1] at hrP
  have hrO := of_any 2 k t0 (by omega)
  rw [lo_of_lt t0 t1, hi_of_lt t0 t1] at hrO
  replace hrA := Lib.hid hrA
  replace hrS := Lib.hid hrS
  replace hrM := Lib.hid hrM
  replace hrN := Lib.hid hrN
  replace hrP := Lib.hid hrP
  replace hrO := Lib.hid hrO
  have hd : (lo (redu 2 a) == 0 && hi (redu 2 a) == 0) = true := by rw [hz]; rfl
  have hw0 := winv_zero a a0 a1 hz
  rw [show lo 0 = 0 from rfl, show hi 0 = 0 from rfl] at hw0
  have hI := Lib.hid (finv_two a 0 0 8 hw0)
  clear hn hz hw0
  go_enter Try.func3, Try.ntmps3
  go_wp2_with fail
  refine name_calls (fun w1 => Below w.heap.size w w1 ∧ w1.heap[w.heap.size]? = some (.cells #[.int .u64 (lo a), .int .u64 (hi a)] 24 (0, 0)) ∧ w1.heap[w.heap.size + 1]? = some (.cells #[.int .u64 (lo b), .int .u64 (hi b)] 24 (0, 0)))
    ⟨((Below.refl _ _).alloc (Nat.le_refl _) _).alloc (by simp) _, alloc_keeps (alloc_at rfl), alloc_at (by simp)⟩ ?_
  rintro w1 ⟨hb, k0, k1⟩
  refine call_then (fawake_any _) ?_
  intro w2 hw2
  replace hb := below_next hb hb.size hw2
  replace k0 := keeps hw2 k0
  replace k1 := keeps hw2 k1
  clear hw2
  obtain ⟨c0, d0, f0, g0⟩ := blk2 k0
  obtain ⟨c1, d1, f1, g1⟩ := blk2 k1
  go_wp2_with fail
  refine call_then (hF.out _) ?_
  intro w2 hw2
  replace hb := below_next hb hb.size hw2
  replace k0 := keeps hw2 k0
  replace k1 := keeps hw2 k1
  clear hw2
  obtain ⟨c0, d0, f0, g0⟩ := blk2 k0
  obtain ⟨c1, d1, f1, g1⟩ := blk2 k1
  go_wp2_with fail
  refine call_then (hF.out _) ?_
  intro w2 hw2
  replace hb := below_next hb hb.size hw2
  replace k0 := keeps hw2 k0
  replace k1 := keeps hw2 k1
  clear hw2
  obtain ⟨c0, d0, f0, g0⟩ := blk2 k0
  obtain ⟨c1, d1, f1, g1⟩ := blk2 k1
  go_wp2_with fail
  refine wp_region_flow3 6 _ _ (.cells #[.int .u64 0, .int .u64 0] 24 (0, 0)) (.cells #[.int .u64 0, .int .u64 0] 24 (0, 0)) (by kernel_rfl) (by kernel_rfl) (by kernel_rfl) rfl rfl rfl rfl (fun _ _ => by simp [go_sem]) (fun _ _ => by simp [go_sem]) ?_
  apply Exists.intro
  refine ⟨fun ι _ φ hφ => ?_, fun w3 p q hw3 hpp hqq hpq kp kq => ?_⟩
  · obtain ⟨c0, d0⟩ := hφ.two k0
    obtain ⟨c1, d1⟩ := hφ.two k1
    simp only [List.take_succ_cons, List.take_zero]
    repeat (go_big_quiet_step ((first
      | (go_at_call 11; exact flow_call hφ (of_any 2 _ (by omega) (by omega) _)))))
    exact wpQuiet_nil rfl
  have hsz := lt_of_get k1
  replace hb := below_next hb hb.size hw3
  replace k0 := keeps hw3 k0
  replace k1 := keeps hw3 k1
  clear hw3
  have n0 : w.heap.size ≠ p := by omega
  have n1 : w.heap.size ≠ q := by omega
  have m0 : w.heap.size + 1 ≠ p := by omega
  have m1 : w.heap.size + 1 ≠ q := by omega
  obtain ⟨c0, d0, f0, g0⟩ := blk2 kp
  obtain ⟨c1, d1, f1, g1⟩ := blk2 kq
  obtain ⟨e0, e1, e2, e3⟩ := blk2 k0
  obtain ⟨o0, o1, o2, o3⟩ := blk2 k1
  have hqp : q ≠ p := Ne.symm hpq
  simp only [List.drop_succ_cons, List.drop_zero, Act.put]
  go_wp2_with fail
  refine name_calls (fun w1 => Below w.heap.size w w1 ∧ w1.heap[w.heap.size]? = some (.cells #[.int .u64 (lo a), .int .u64 (hi a)] 24 (0, 0)) ∧ w1.heap[w.heap.size + 1]? = some (.cells #[.int .u64 (lo b), .int .u64 (hi b)] 24 (0, 0)) ∧
      w1.heap[p]? = some (.cells #[.int .u64 (lo (redu 2 a)), .int .u64 (hi (redu 2 a))] 24 (0, 0)) ∧ w1.heap[q]? = some (.cells #[.int .u64 (lo (redu 2 b)), .int .u64 (hi (redu 2 b))] 24 (0, 0)))
    ⟨below_store2 (below_store2 hb (by omega)) (by omega), store2_far (store2_far k0 n0) n1, store2_far (store2_far k1 m0) m1, store2_far (store2 kp) hpq, store2 (store2_far kq hqp)⟩ ?_
  clear hb k0 k1 kp kq c0 d0 f0 g0 c1 d1 f1 g1 e0 e1 e2 e3 o0 o1 o2 o3 n0 n1 m0 m1 hqp hsz
  rintro w4 ⟨hb, k0, k1, kp, kq⟩
  refine call_then (hI.out _) ?_
  intro w5 hw5
  replace hb := below_next hb hb.size hw5
  replace k0 := keeps hw5 k0
  replace k1 := keeps hw5 k1
  replace kp := keeps hw5 kp
  replace kq := keeps hw5 kq
  clear hw5
  have s0 : p < w5.heap.size := lt_of_get kp
  have s1 : p ≠ w5.heap.size := Nat.ne_of_lt s0
  obtain ⟨c0, d0, f0, g0⟩ := blk2 kp
  go_wp2_with fail
  refine name_wp (fun w6 => Below w.heap.size w w6 ∧ w6.heap[w.heap.size]? = some (.cells #[.int .u64 (lo a), .int .u64 (hi a)] 24 (0, 0)) ∧ w6.heap[w.heap.size + 1]? = some (.cells #[.int .u64 (lo b), .int .u64 (hi b)] 24 (0, 0)) ∧
      w6.heap[p]? = some (.cells #[.int .u64 (lo (redu 2 a)), .int .u64 (hi (redu 2 a))] 24 (0, 0)) ∧ w6.heap[q]? = some (.cells #[.int .u64 (lo (redu 2 b)), .int .u64 (hi (redu 2 b))] 24 (0, 0)))
    ⟨hb.alloc hb.size _, alloc_keeps k0, alloc_keeps k1, alloc_keeps kp, alloc_keeps kq⟩ ?_
  clear hb k0 k1 kp kq s0 s1 c0 d0 f0 g0
  rintro w6 ⟨hb, k0, k1, kp, kq⟩
  refine wp_region_flow0 (by kernel_rfl) (by kernel_rfl) ?_
  intro ι _ φ hφ
  obtain ⟨c0, d0⟩ := hφ.two k0
  obtain ⟨c1, d1⟩ := hφ.two k1
  obtain ⟨c2, d2⟩ := hφ.two kp
  obtain ⟨c3, d3⟩ := hφ.two kq
  simp only [List.append]
  repeat (go_big_quiet_step ((first
    | (go_at_call 14; exact flow_call hφ (hfA.out _))
    | (go_at_call 16; exact flow_call hφ (hfS.out _))
    | (go_at_call 20; exact flow_call hφ (hfM.out _))
    | (go_at_call 18; exact flow_call hφ (hfN.out _))
    | (go_at_call 21; exact flow_call hφ (hfP.out _))
    | (go_at_call 23; exact flow_call hφ (hfO.out _))
    | (go_at_call 15; exact flow_call hφ (hrA.out _))
    | (go_at_call 17; exact flow_call hφ (hrS.out _))
    | (go_at_call 13; exact flow_call hφ (hrM.out _))
    | (go_at_call 19; exact flow_call hφ (hrN.out _))
    | (go_at_call 22; exact flow_call hφ (hrP.out _))
    | (go_at_call 11; exact flow_call hφ (hrO.out _))
    | (go_at_call 24; exact flow_call hφ (fone_any _ (by omega) _))
    | (go_at_call 25; exact flow_call hφ (hfI.out _))
    | (go_at_call 26; exact flow_call hφ (rin_two _ _))
    | (go_at_call 27; exact flow_call hφ (fsize_two _))
    | (go_at_call 28; exact flow_call hφ (rsize_two _))
    | (go_at_call 29; exact flow_call hφ (fvalid_two _)))))
  refine wpQuiet_nil ?_
  intro w9 hw9
  clear c0 d0 c1 d1 c2 d2 c3 d3 hφ
  go_wp2
  go_ret
  exact ⟨rfl, below_next hb hb.size hw9⟩
end Go.Proofs.Ytokdbedineoklaa
