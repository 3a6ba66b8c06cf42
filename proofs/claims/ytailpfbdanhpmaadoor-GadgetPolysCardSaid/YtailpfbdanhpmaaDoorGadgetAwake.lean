/-
  Law 9's own first step: a Parallel gadget of two pairs.
-/
import Derived.Test.YtailpfbdanhpmaaDoorGadgetOf
namespace Go.Proofs.YtailpfbdanhpmaaDoor
open Go.RowKit F Flow
set_option linter.unusedVariables false
attribute [local go_sem] eql_elem

theorem par_arity (w : World) : Calls Tryd.prog 9 #[.agg #[.int .u8 3, .slice none 0 0, .int .i64 2]] w fun e w' => e = .returned (.int .i64 4) ∧ Below w.heap.size w w' := by
  go_enter Tryd.func9, Tryd.ntmps9
  go_wp2
  go_ret
  exact ⟨rfl, (Below.refl _ _).alloc (Nat.le_refl _) _⟩
theorem par_check (w : World) : Calls Tryd.prog 17 #[.agg #[.int .u8 3, .slice none 0 0, .int .i64 2], .int .u8 1] w fun e w' => e = .returned (.int .i64 0) ∧ Below w.heap.size w w' := by
  go_enter Tryd.func17, Tryd.ntmps17
  go_wp2_with fail
  refine name_calls (fun w1 => Below w.heap.size w w1 ∧ w1.heap[w.heap.size]? = some (.cells #[.int .u8 3, .slice none 0 0, .int .i64 2] 34 (0, 0))) ⟨(Below.refl _ _).alloc (Nat.le_refl _) _, alloc_at rfl⟩ ?_
  rintro w1 ⟨hb, k0⟩
  refine call_then (fvalid_one _) ?_
  intro w2 hb2
  replace hb := below_next hb hb.size hb2
  replace k0 := keeps hb2 k0
  clear hb2
  obtain ⟨c0, c1, c2, _⟩ := blk3 k0
  go_wp2
  go_ret
  exact ⟨rfl, hb⟩
theorem par_checkin (w : World) : Calls Tryd.prog 23 #[.agg #[.int .u8 3, .slice none 0 0, .int .i64 2], .int .u8 1, .int .i64 4] w fun e w' => e = .returned (.int .i64 0) ∧ Below w.heap.size w w' := by
  go_enter Tryd.func23, Tryd.ntmps23
  go_wp2_with fail
  refine name_calls (fun w1 => Below w.heap.size w w1 ∧ w1.heap[w.heap.size]? = some (.cells #[.int .u8 3, .slice none 0 0, .int .i64 2] 34 (0, 0))) ⟨(Below.refl _ _).alloc (Nat.le_refl _) _, alloc_at rfl⟩ ?_
  rintro w1 ⟨hb, k0⟩
  refine call_then (par_check _) ?_
  intro w2 hb2
  replace hb := below_next hb hb.size hb2
  replace k0 := keeps hb2 k0
  clear hb2
  obtain ⟨c0, c1, c2, _⟩ := blk3 k0
  go_wp2_with fail
  clear c0 c1 c2
  refine call_then (par_arity _) ?_
  intro w2 hb2
  replace hb := below_next hb hb.size hb2
  replace k0 := keeps hb2 k0
  clear hb2
  go_wp2
  go_ret
  exact ⟨rfl, hb⟩
theorem cmul_1_2 (w : World) : Calls Tryd.prog 30 #[.int .u8 1, .agg #[.int .u64 1, .int .u64 0], .agg #[.int .u64 2, .int .u64 0]] w fun e w' => e = .returned (.agg #[.int .u64 2, .int .u64 0]) ∧ Below w.heap.size w w' := by
  have h := fmul_one 1 2 w
  rw [show lo 1 = 1 by decide, show hi 1 = 0 by decide, show lo 2 = 2 by decide, show hi 2 = 0 by decide, show mul 1 1 2 = 2 by decide, show lo 2 = 2 by decide, show hi 2 = 0 by decide] at h
  exact h
theorem cmul_3_4 (w : World) : Calls Tryd.prog 30 #[.int .u8 1, .agg #[.int .u64 3, .int .u64 0], .agg #[.int .u64 4, .int .u64 0]] w fun e w' => e = .returned (.agg #[.int .u64 12, .int .u64 0]) ∧ Below w.heap.size w w' := by
  have h := fmul_one 3 4 w
  rw [show lo 3 = 3 by decide, show hi 3 = 0 by decide, show lo 4 = 4 by decide, show hi 4 = 0 by decide, show mul 1 3 4 = 12 by decide, show lo 12 = 12 by decide, show hi 12 = 0 by decide] at h
  exact h
theorem cadd_0_2 (w : World) : Calls Tryd.prog 29 #[.int .u8 1, .agg #[.int .u64 0, .int .u64 0], .agg #[.int .u64 2, .int .u64 0]] w fun e w' => e = .returned (.agg #[.int .u64 2, .int .u64 0]) ∧ Below w.heap.size w w' := by
  have h := fadd_one 0 2 w
  rw [show lo 0 = 0 by decide, show hi 0 = 0 by decide, show lo 2 = 2 by decide, show hi 2 = 0 by decide, show add 1 0 2 = 2 by decide, show lo 2 = 2 by decide, show hi 2 = 0 by decide] at h
  exact h
theorem cadd_2_12 (w : World) : Calls Tryd.prog 29 #[.int .u8 1, .agg #[.int .u64 2, .int .u64 0], .agg #[.int .u64 12, .int .u64 0]] w fun e w' => e = .returned (.agg #[.int .u64 14, .int .u64 0]) ∧ Below w.heap.size w w' := by
  have h := fadd_one 2 12 w
  rw [show lo 2 = 2 by decide, show hi 2 = 0 by decide, show lo 12 = 12 by decide, show hi 12 = 0 by decide, show add 1 2 12 = 14 by decide, show lo 14 = 14 by decide, show hi 14 = 0 by decide] at h
  exact h
set_option maxHeartbeats 2000000 in
theorem par_of (q : Nat) (w : World) (hq : w.heap[q]? = some (.cells #[.int .u64 1, .int .u64 0, .int .u64 2, .int .u64 0, .int .u64 3, .int .u64 0, .int .u64 4, .int .u64 0] 28 (0, 0))) :
    Calls Tryd.prog 16 #[.agg #[.int .u8 3, .slice none 0 0, .int .i64 2], .int .u8 1, .slice (some ⟨q, 0, none⟩) 4 4] w fun e w' => e = .returned (.tuple #[.agg #[.int .u64 14, .int .u64 0], .int .i64 0]) ∧ Below w.heap.size w w' := by
  go_enter Tryd.func16, Tryd.ntmps16
  go_wp2_with fail
  refine name_calls (fun w1 => Below w.heap.size w w1 ∧ w1.heap[w.heap.size]? = some (.cells #[.int .u8 3, .slice none 0 0, .int .i64 2] 34 (0, 0)) ∧ w1.heap[w.heap.size + 1]? = some (.cells #[.int .u64 0, .int .u64 0] 28 (0, 0)) ∧ w1.heap[q]? = some (.cells #[.int .u64 1, .int .u64 0, .int .u64 2, .int .u64 0, .int .u64 3, .int .u64 0, .int .u64 4, .int .u64 0] 28 (0, 0))) ⟨((Below.refl _ _).alloc (Nat.le_refl _) _).alloc (by simp) _, alloc_keeps (alloc_at rfl), alloc_at (by simp), alloc_keeps (alloc_keeps hq)⟩ ?_
  rintro w1 ⟨hb, k0, kr, kq⟩
  refine call_then (par_checkin _) ?_
  intro w2 hb2
  replace hb := below_next hb hb.size hb2
  replace k0 := keeps hb2 k0
  replace kr := keeps hb2 kr
  replace kq := keeps hb2 kq
  clear hb2
  obtain ⟨c0, c1, c2, _⟩ := blk3 k0
  go_wp2
  refine name_wp (fun w3 => Below w.heap.size w w3 ∧ w3.heap[w2.heap.size]? = some (.cells #[.int .u64 0, .int .u64 0] 28 (0, 0)) ∧ w3.heap[w.heap.size + 1]? = some (.cells #[.int .u64 0, .int .u64 0] 28 (0, 0)) ∧ w3.heap[q]? = some (.cells #[.int .u64 1, .int .u64 0, .int .u64 2, .int .u64 0, .int .u64 3, .int .u64 0, .int .u64 4, .int .u64 0] 28 (0, 0))) ⟨hb.alloc hb.size _, alloc_at rfl, alloc_keeps kr, alloc_keeps kq⟩ ?_
  have hs : w.heap.size + 1 < w2.heap.size := lt_of_get kr
  have hs2 : q ≠ w2.heap.size := Nat.ne_of_lt (lt_of_get kq)
  have hs3 : w.heap.size ≤ w2.heap.size := hb.size
  clear c0 c1 c2 k0 hb kr kq
  generalize w2.heap.size = s at *
  rintro w3 ⟨hb, ks, kr, kq⟩
  refine wp_loop_rounds 3 ?_
  try rw [rounds_succ]
  go_wp2
  refine wp_region_flow1 14 (by kernel_rfl) (by kernel_rfl) (by kernel_rfl) ?_
  apply Exists.intro
  refine ⟨fun ι _ φ hφ => ?_, fun wt hwt => ?_⟩
  · have hc : ∀ i k v, (#[.int .u64 1, .int .u64 0, .int .u64 2, .int .u64 0, .int .u64 3, .int .u64 0, .int .u64 4, .int .u64 0] : Array Value)[k]? = some v → (φ i).cell? ⟨q, k, none⟩ = some v := fun i k v hv => by
      have := keeps (hφ.old i) kq
      simp [World.cell?, this, hv]
    have q0 := fun i => hc i 0 _ rfl
    have q1 := fun i => hc i 1 _ rfl
    have q2 := fun i => hc i 2 _ rfl
    have q3 := fun i => hc i 3 _ rfl
    have q4 := fun i => hc i 4 _ rfl
    have q5 := fun i => hc i 5 _ rfl
    have q6 := fun i => hc i 6 _ rfl
    have q7 := fun i => hc i 7 _ rfl
    clear hc
    obtain ⟨a2, a3⟩ := hφ.two ks
    simp only [List.take_succ_cons, List.take_zero]
    repeat (go_big_quiet_step ((first
      | (go_at_call 30; exact flow_call hφ (cmul_1_2 _))
      | (go_at_call 29; exact flow_call hφ (cadd_0_2 _)))))
    exact wpQuiet_nil rfl
  replace hb := below_next hb hb.size hwt
  replace kr := keeps hwt kr
  replace ks := keeps hwt ks
  replace kq := keeps hwt kq
  clear hwt
  simp only [List.drop_succ_cons, List.drop_zero]
  obtain ⟨s0, s1, s2, s3⟩ := blk2 ks
  go_wp2
  refine name_wp (fun w4 => Below w.heap.size w w4 ∧ w4.heap[s]? = some (.cells #[.int .u64 2, .int .u64 0] 28 (0, 0)) ∧ w4.heap[w.heap.size + 1]? = some (.cells #[.int .u64 0, .int .u64 0] 28 (0, 0)) ∧ w4.heap[q]? = some (.cells #[.int .u64 1, .int .u64 0, .int .u64 2, .int .u64 0, .int .u64 3, .int .u64 0, .int .u64 4, .int .u64 0] 28 (0, 0))) ⟨below_store2 hb hs3, store2 ks, store2_far kr (by omega), store2_far kq hs2⟩ ?_
  clear s0 s1 s2 s3 hb kr ks kq
  rintro w4 ⟨hb, ks, kr, kq⟩
  try rw [rounds_succ]
  go_wp2
  refine wp_region_flow1 14 (by kernel_rfl) (by kernel_rfl) (by kernel_rfl) ?_
  apply Exists.intro
  refine ⟨fun ι _ φ hφ => ?_, fun wt hwt => ?_⟩
  · have hc : ∀ i k v, (#[.int .u64 1, .int .u64 0, .int .u64 2, .int .u64 0, .int .u64 3, .int .u64 0, .int .u64 4, .int .u64 0] : Array Value)[k]? = some v → (φ i).cell? ⟨q, k, none⟩ = some v := fun i k v hv => by
      have := keeps (hφ.old i) kq
      simp [World.cell?, this, hv]
    have q0 := fun i => hc i 0 _ rfl
    have q1 := fun i => hc i 1 _ rfl
    have q2 := fun i => hc i 2 _ rfl
    have q3 := fun i => hc i 3 _ rfl
    have q4 := fun i => hc i 4 _ rfl
    have q5 := fun i => hc i 5 _ rfl
    have q6 := fun i => hc i 6 _ rfl
    have q7 := fun i => hc i 7 _ rfl
    clear hc
    obtain ⟨a2, a3⟩ := hφ.two ks
    simp only [List.take_succ_cons, List.take_zero]
    repeat (go_big_quiet_step ((first
      | (go_at_call 30; exact flow_call hφ (cmul_3_4 _))
      | (go_at_call 29; exact flow_call hφ (cadd_2_12 _)))))
    exact wpQuiet_nil rfl
  replace hb := below_next hb hb.size hwt
  replace kr := keeps hwt kr
  replace ks := keeps hwt ks
  replace kq := keeps hwt kq
  clear hwt
  simp only [List.drop_succ_cons, List.drop_zero]
  obtain ⟨s0, s1, s2, s3⟩ := blk2 ks
  go_wp2
  refine name_wp (fun w4 => Below w.heap.size w w4 ∧ w4.heap[s]? = some (.cells #[.int .u64 14, .int .u64 0] 28 (0, 0)) ∧ w4.heap[w.heap.size + 1]? = some (.cells #[.int .u64 0, .int .u64 0] 28 (0, 0))) ⟨below_store2 hb hs3, store2 ks, store2_far kr (by omega)⟩ ?_
  clear s0 s1 s2 s3 hb kr ks kq
  rintro w5 ⟨hb, ks, kr⟩
  try rw [rounds_succ]
  obtain ⟨s0, s1, s2, s3⟩ := blk2 ks
  obtain ⟨r0, r1, r2, r3⟩ := blk2 kr
  go_wp2
  obtain ⟨p2, p3, _, _⟩ := blk2 (store2 (u := .int .u64 14) (v := .int .u64 0) kr)
  exact bodyPost_ret (v := .tuple #[.agg #[.int .u64 14, .int .u64 0], .int .i64 0]) (by simp [results, Tryd.results16, go_sem, p2, p3]) rfl ⟨rfl, below_store2 hb (Nat.le_succ _)⟩
theorem gawake (w : World) : Calls Tryd.prog 5 #[] w fun e w' => e = .returned (.bool true) ∧ Below w.heap.size w w' := by
  go_enter Tryd.func5, Tryd.ntmps5
  go_wp2_with fail
  refine name_calls (fun w1 => Below w.heap.size w w1 ∧ w1.heap[w.heap.size]? = some (.cells #[.int .u64 1, .int .u64 0, .int .u64 2, .int .u64 0, .int .u64 3, .int .u64 0, .int .u64 4, .int .u64 0] 28 (0, 0))) ⟨(Below.refl _ _).alloc (Nat.le_refl _) _, alloc_at rfl⟩ ?_
  rintro w1 ⟨hb, kq⟩
  refine call_then (par_of _ _ kq) ?_
  intro w2 hb2
  replace hb := below_next hb hb.size hb2
  clear hb2 kq
  go_wp2
  go_ret
  exact ⟨rfl, hb.alloc hb.size _⟩
end Go.Proofs.YtailpfbdanhpmaaDoor
