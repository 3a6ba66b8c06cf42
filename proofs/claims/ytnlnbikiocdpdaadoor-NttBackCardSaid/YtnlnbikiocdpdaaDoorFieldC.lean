/-
  Contracts of package field: the first law's example.
-/
import Derived.Test.YtnlnbikiocdpdaaDoorFieldB
namespace Go.Proofs.YtnlnbikiocdpdaaDoor
open Go.RowKit F Flow
set_option linter.unusedVariables false
attribute [local go_sem] eql_elem

theorem four {W : World} {ι : Type} {φ : ι → World} (h : Family W ι φ) {b : Nat} {u0 u1 u2 u3 : Value} {t : TypeId} (hk : W.heap[b]? = some (.cells #[u0, u1, u2, u3] t (0, 0))) :
    (∀ i, (φ i).cell? ⟨b, 0, none⟩ = some u0) ∧ (∀ i, (φ i).cell? ⟨b, 1, none⟩ = some u1) ∧ (∀ i, (φ i).cell? ⟨b, 2, none⟩ = some u2) ∧ (∀ i, (φ i).cell? ⟨b, 3, none⟩ = some u3) :=
  ⟨fun i => (blk4 (keeps (h.old i) hk)).1, fun i => (blk4 (keeps (h.old i) hk)).2.1, fun i => (blk4 (keeps (h.old i) hk)).2.2.1, fun i => (blk4 (keeps (h.old i) hk)).2.2.2.1⟩

set_option maxHeartbeats 1000000 in
theorem each_two (w : World) (p q : Nat)
    (hp : w.heap[p]? = some (.cells #[.int .u64 1, .int .u64 0, .int .u64 2, .int .u64 0] 34 (0, 0)))
    (hq : w.heap[q]? = some (.cells #[.int .u64 3, .int .u64 0, .int .u64 4, .int .u64 0] 34 (0, 0))) :
    Calls Tryd.prog 33 #[.int .u8 1, .func (.func 29) #[.int .u8 1] #[], .slice (some ⟨p, 0, none⟩) 2 2, .slice (some ⟨q, 0, none⟩) 2 2] w fun e w' =>
      ∃ l, e = .returned (.tuple #[.slice (some ⟨l, 0, none⟩) 2 2, .int .i64 0]) ∧ Below w.heap.size w w' ∧ w'.heap[l]? = some (.cells #[.int .u64 3, .int .u64 0, .int .u64 8, .int .u64 0] 34 (0, 0)) := by
  have hmk : ∀ w : World, (Instr.makeSlice 22 (.int .i64 2) (.int .i64 2)).run Tryd.prog w = .ok (.slice (some ⟨w.heap.size, 0, none⟩) 2 2) (w.alloc (.cells #[.int .u64 0, .int .u64 0, .int .u64 0, .int .u64 0] 34)) := fun _ => by kernel_rfl
  have m1 : Hid (∀ w, Calls Tryd.prog 29 #[.int .u8 1, .agg #[.int .u64 1, .int .u64 0], .agg #[.int .u64 3, .int .u64 0]] w fun e w' => e = .returned (.agg #[.int .u64 3, .int .u64 0]) ∧ Below w.heap.size w w') := Lib.hid (fmul_one 1 3)
  have m2 : Hid (∀ w, Calls Tryd.prog 29 #[.int .u8 1, .agg #[.int .u64 2, .int .u64 0], .agg #[.int .u64 4, .int .u64 0]] w fun e w' => e = .returned (.agg #[.int .u64 8, .int .u64 0]) ∧ Below w.heap.size w w') := Lib.hid (fmul_one 2 4)
  go_enter Tryd.func33, Tryd.ntmps33
  go_wp2_with fail
  refine call_then (fvalid_one _) ?_
  intro w1 hb
  have kp := keeps hb hp
  have kq := keeps hb hq
  go_wp2
  refine name_wp (fun w2 => Below w.heap.size w w2 ∧ w2.heap[p]? = some (.cells #[.int .u64 1, .int .u64 0, .int .u64 2, .int .u64 0] 34 (0, 0)) ∧ w2.heap[q]? = some (.cells #[.int .u64 3, .int .u64 0, .int .u64 4, .int .u64 0] 34 (0, 0)) ∧
     w2.heap[w1.heap.size]? = some (.cells #[.int .u64 0, .int .u64 0, .int .u64 0, .int .u64 0] 34 (0, 0))) ⟨hb.alloc hb.size _, alloc_keeps kp, alloc_keeps kq, alloc_at rfl⟩ ?_
  have hl := hb.size
  have hpl : p ≠ w1.heap.size := Nat.ne_of_lt (lt_of_get kp)
  have hql : q ≠ w1.heap.size := Nat.ne_of_lt (lt_of_get kq)
  clear hb kp kq hp hq
  generalize w1.heap.size = l at *
  rintro w2 ⟨hb, kp, kq, kl⟩
  refine wp_loop_rounds 3 ?_
  rw [rounds_succ]
  go_wp2
  refine wp_region_flow1 13 (by kernel_rfl) (by kernel_rfl) (by kernel_rfl) ?_
  apply Exists.intro
  refine ⟨fun ι _ φ hφ => ?_, fun wt hwt => ?_⟩
  · obtain ⟨p0, p1, p2, p3⟩ := four hφ kp
    obtain ⟨q0, q1, q2, q3⟩ := four hφ kq
    simp only [List.take_succ_cons, List.take_zero]
    repeat (go_big_quiet_step ((first
      | (go_at_call 29; exact flow_call hφ (m1.out _)))))
    exact wpQuiet_nil rfl
  replace hb := below_next hb hb.size hwt
  replace kp := keeps hwt kp
  replace kq := keeps hwt kq
  replace kl := keeps hwt kl
  clear hwt
  simp only [List.drop_succ_cons, List.drop_zero]
  obtain ⟨c0, c1, c2, c3, f0, f1, f2, f3⟩ := blk4 kl
  go_wp2
  clear c0 c1 c2 c3 f0 f1 f2 f3
  have hb' := below_store2 (u := .int .u64 3) (v := .int .u64 0) hb hl
  have kp' := store2_far (u := .int .u64 3) (v := .int .u64 0) kp hpl
  have kq' := store2_far (u := .int .u64 3) (v := .int .u64 0) kq hql
  have kl' : ((wt.setCell ⟨l, 0, none⟩ (.int .u64 3)).setCell ⟨l, 1, none⟩ (.int .u64 0)).heap[l]? = some (.cells #[.int .u64 3, .int .u64 0, .int .u64 0, .int .u64 0] 34 (0, 0)) := store1 (store1 kl)
  clear hb kp kq kl
  generalize (wt.setCell ⟨l, 0, none⟩ (.int .u64 3)).setCell ⟨l, 1, none⟩ (.int .u64 0) = w3 at *
  have hb := hb'
  have kp := kp'
  have kq := kq'
  have kl := kl'
  clear hb' kp' kq' kl' wt
  rw [rounds_succ]
  go_wp2
  refine wp_region_flow1 13 (by kernel_rfl) (by kernel_rfl) (by kernel_rfl) ?_
  apply Exists.intro
  refine ⟨fun ι _ φ hφ => ?_, fun wt hwt => ?_⟩
  · obtain ⟨p0, p1, p2, p3⟩ := four hφ kp
    obtain ⟨q0, q1, q2, q3⟩ := four hφ kq
    simp only [List.take_succ_cons, List.take_zero]
    repeat (go_big_quiet_step ((first
      | (go_at_call 29; exact flow_call hφ (m2.out _)))))
    exact wpQuiet_nil rfl
  replace hb := below_next hb hb.size hwt
  replace kp := keeps hwt kp
  replace kq := keeps hwt kq
  replace kl := keeps hwt kl
  clear hwt
  simp only [List.drop_succ_cons, List.drop_zero]
  obtain ⟨c0, c1, c2, c3, f0, f1, f2, f3⟩ := blk4 kl
  go_wp2
  clear c0 c1 c2 c3 f0 f1 f2 f3
  have hb' := (hb.setCell (p := ⟨l, 2, none⟩) hl (.int .u64 8)).setCell (p := ⟨l, 3, none⟩) hl (.int .u64 0)
  have kl' : ((wt.setCell ⟨l, 2, none⟩ (.int .u64 8)).setCell ⟨l, 3, none⟩ (.int .u64 0)).heap[l]? = some (.cells #[.int .u64 3, .int .u64 0, .int .u64 8, .int .u64 0] 34 (0, 0)) := store1 (store1 kl)
  clear hb kp kq kl
  generalize (wt.setCell ⟨l, 2, none⟩ (.int .u64 8)).setCell ⟨l, 3, none⟩ (.int .u64 0) = w4 at *
  rw [rounds_succ]
  go_wp2
  go_ret2
  exact ⟨l, rfl, hb', kl'⟩
end Go.Proofs.YtnlnbikiocdpdaaDoor
