/-
  Contracts of package field: the first law's example.
-/
import Derived.Test.YtokdbedineoklaaFieldB
namespace Go.Proofs.Ytokdbedineoklaa
open Go.RowKit F Flow
set_option linter.unusedVariables false
attribute [local go_sem] eql_elem

theorem four {W : World} {ι : Type} {φ : ι → World} (h : Family W ι φ) {b : Nat} {u0 u1 u2 u3 : Value} {t : TypeId} (hk : W.heap[b]? = some (.cells #[u0, u1, u2, u3] t (0, 0))) :
    (∀ i, (φ i).cell? ⟨b, 0, none⟩ = some u0) ∧ (∀ i, (φ i).cell? ⟨b, 1, none⟩ = some u1) ∧ (∀ i, (φ i).cell? ⟨b, 2, none⟩ = some u2) ∧ (∀ i, (φ i).cell? ⟨b, 3, none⟩ = some u3) :=
  ⟨fun i => (blk4 (keeps (h.old i) hk)).1, fun i => (blk4 (keeps (h.old i) hk)).2.1, fun i => (blk4 (keeps (h.old i) hk)).2.2.1, fun i => (blk4 (keeps (h.old i) hk)).2.2.2.1⟩

set_option maxHeartbeats 1000000 in
theorem each_two (w : World) (p q : Nat)
    (hp : w.heap[p]? = some (.cells #[.int .u64 1, .int .u64 0, .int .u64 2, .int .u64 0] 24 (0, 0)))
    (hq : w.heap[q]? = some (.cells #[.int .u64 3, .int .u64 0, .int .u64 4, .int .u64 0] 24 (0, 0))) :
    Calls Try.prog 73 #[.int .u8 1, .func (.func 20) #[.int .u8 1] #[], .slice (some ⟨p, 0, none⟩) 2 2, .slice (some ⟨q, 0, none⟩) 2 2] w fun e w' =>
      ∃ l, e = .returned (.tuple #[.slice (some ⟨l, 0, none⟩) 2 2, .int .i64 0]) ∧ Below w.heap.size w w' ∧ w'.heap[l]? = some (.cells #[.int .u64 3, .int .u64 0, .int .u64 8, .int .u64 0] 24 (0, 0)) := by
  have hmk : ∀ w : World, (Instr.makeSlice 43 (.int .i64 2) (.int .i64 2)).run Try.prog w = .ok (.slice (some ⟨w.heap.size, 0, none⟩) 2 2) (w.alloc (.cells #[.int .u64 0, .int .u64 0, .int .u64 0, .int .u64 0] 24)) := fun _ => by kernel_rfl
  have m1 : Hid (∀ w, Calls Try.prog 20 #[.int .u8 1, .agg #[.int .u64 1, .int .u64 0], .agg #[.int .u64 3, .int .u64 0]] w fun e w' => e = .returned (.agg #[.int .u64 3, .int .u64 0]) ∧ Below w.heap.size w w') := Lib.hid (fmul_one 1 3)
  have m2 : Hid (∀ w, Calls Try.prog 20 #[.int .u8 1, .agg #[.int .u64 2, .int .u64 0], .agg #[.int .u64 4, .int .u64 0]] w fun e w' => e = .returned (.agg #[.int .u64 8, .int .u64 0]) ∧ Below w.heap.size w w') := Lib.hid (fmul_one 2 4)
  go_enter Try.func73, Try.ntmps73
  go_wp2_with fail
  refine call_then (fvalid_one _) ?_
  intro w1 hb
  have kp := keeps hb hp
  have kq := keeps hb hq
  go_wp2
  refine name_wp (fun w2 => Below w.heap.size w w2 ∧ w2.heap[p]? = some (.cells #[.int .u64 1, .int .u64 0, .int .u64 2, .int .u64 0] 24 (0, 0)) ∧ w2.heap[q]? = some (.cells #[.int .u64 3, .int .u64 0, .int .u64 4, .int .u64 0] 24 (0, 0)) ∧
     w2.heap[w1.heap.size]? = some (.cells #[.int .u64 0, .int .u64 0, .int .u64 0, .int .u64 0] 24 (0, 0))) ⟨hb.alloc hb.size _, alloc_keeps kp, alloc_keeps kq, alloc_at rfl⟩ ?_
  have hl := hb.size
  have hpl : p ≠ w1.heap.size := Nat.ne_of_lt (lt_of_get kp)
  have hql : q ≠ w1.heap.size := Nat.ne_of_lt (lt_of_get kq)
  clear hb kp kq hp hq
  generalize w1.heap.size = l at *
  rintro w2 ⟨hb, kp, kq, kl⟩
  refine wp_loop_rounds 3 ?_
  rw [rounds_succ]
  go_wp2
  refine wp_region_flow1 13 (by kernel_rfl) (by kernel_rfl) (by kernel_rfl) ?_
  apply Exists.intro
  refine ⟨fun ι _ φ hφ => ?_, fun wt hwt => ?_⟩
  · obtain ⟨p0, p1, p2, p3⟩ := four hφ kp
    obtain ⟨q0, q1, q2, q3⟩ := four hφ kq
    simp only [List.take_succ_cons, List.take_zero]
    repeat (go_big_quiet_step ((first
      | (go_at_call 20; exact flow_call hφ (m1.out _)))))
    exact wpQuiet_nil rfl
  replace hb := below_next hb hb.size hwt
  replace kp := keeps hwt kp
  replace kq := keeps hwt kq
  replace kl := keeps hwt kl
  clear hwt
  simp only [List.drop_succ_cons, List.drop_zero]
  obtain ⟨c0, c1, c2, c3, f0, f1, f2, f3⟩ := blk4 kl
  go_wp2
  clear c0 c1 c2 c3 f0 f1 f2 f3
  have hb' := below_store2 (u := .int .u64 3) (v := .int .u64 0) hb hl
  have kp' := store2_far (u := .int .u64 3) (v := .int .u64 0) kp hpl
  have kq' := store2_far (u := .int .u64 3) (v := .int .u64 0) kq hql
  have kl' : ((wt.setCell ⟨l, 0, none⟩ (.int .u64 3)).setCell ⟨l, 1, none⟩ (.int .u64 0)).heap[l]? = some (.cells #[.int .u64 3, .int .u64 0, .int .u64 0, .int .u64 0] 24 (0, 0)) := store1 (store1 kl)
  clear hb kp kq kl
  generalize (wt.setCell ⟨l, 0, none⟩ (.int .u64 3)).setCell ⟨l, 1, none⟩ (.int .u64 0) = w3 at *
  have hb := hb'
  have kp := kp'
  have kq := kq'
  have kl := kl'
  clear hb' kp' kq' kl' wt
  rw [rounds_succ]
  go_wp2
  refine wp_region_flow1 13 (by kernel_rfl) (by kernel_rfl) (by kernel_rfl) ?_
  apply Exists.intro
  refine ⟨fun ι _ φ hφ => ?_, fun wt hwt => ?_⟩
  · obtain ⟨p0, p1, p2, p3⟩ := four hφ kp
    obtain ⟨q0, q1, q2, q3⟩ := four hφ kq
    simp only [List.take_succ_cons, List.take_zero]
    repeat (go_big_quiet_step ((first
      | (go_at_call 20; exact flow_call hφ (m2.out _)))))
    exact wpQuiet_nil rfl
  replace hb := below_next hb hb.size hwt
  replace kp := keeps hwt kp
  replace kq := keeps hwt kq
  replace kl := keeps hwt kl
  clear hwt
  simp only [List.drop_succ_cons, List.drop_zero]
  obtain ⟨c0, c1, c2, c3, f0, f1, f2, f3⟩ := blk4 kl
  go_wp2
  clear c0 c1 c2 c3 f0 f1 f2 f3
  have hb' := (hb.setCell (p := ⟨l, 2, none⟩) hl (.int .u64 8)).setCell (p := ⟨l, 3, none⟩) hl (.int .u64 0)
  have kl' : ((wt.setCell ⟨l, 2, none⟩ (.int .u64 8)).setCell ⟨l, 3, none⟩ (.int .u64 0)).heap[l]? = some (.cells #[.int .u64 3, .int .u64 0, .int .u64 8, .int .u64 0] 24 (0, 0)) := store1 (store1 kl)
  clear hb kp kq kl
  generalize (wt.setCell ⟨l, 2, none⟩ (.int .u64 8)).setCell ⟨l, 3, none⟩ (.int .u64 0) = w4 at *
  rw [rounds_succ]
  go_wp2
  go_ret2
  exact ⟨l, rfl, hb', kl'⟩
set_option maxHeartbeats 1000000 in
theorem sum_two (w : World) (l : Nat)
    (h : w.heap[l]? = some (.cells #[.int .u64 3, .int .u64 0, .int .u64 8, .int .u64 0] 24 (0, 0))) :
    Calls Try.prog 34 #[.int .u8 1, .slice (some ⟨l, 0, none⟩) 2 2] w fun e w' => e = .returned (.agg #[.int .u64 11, .int .u64 0]) ∧ Below w.heap.size w w' := by
  have m1 : Hid (∀ w, Calls Try.prog 14 #[.int .u8 1, .agg #[.int .u64 0, .int .u64 0], .agg #[.int .u64 3, .int .u64 0]] w fun e w' => e = .returned (.agg #[.int .u64 3, .int .u64 0]) ∧ Below w.heap.size w w') := Lib.hid (fadd_one 0 3)
  have m2 : Hid (∀ w, Calls Try.prog 14 #[.int .u8 1, .agg #[.int .u64 3, .int .u64 0], .agg #[.int .u64 8, .int .u64 0]] w fun e w' => e = .returned (.agg #[.int .u64 11, .int .u64 0]) ∧ Below w.heap.size w w') := Lib.hid (fadd_one 3 8)
  have hll := lt_of_get h
  go_enter Try.func34, Try.ntmps34
  go_wp2_with fail
  refine name_wp (fun w2 => Below w.heap.size w w2 ∧ w2.heap[w.heap.size]? = some (.cells #[.int .u64 0, .int .u64 0] 24 (0, 0)) ∧ w2.heap[w.heap.size + 1]? = some (.cells #[.int .u64 0, .int .u64 0] 24 (0, 0)) ∧ w2.heap[l]? = some (.cells #[.int .u64 3, .int .u64 0, .int .u64 8, .int .u64 0] 24 (0, 0)))
    ⟨((Below.refl _ _).alloc (Nat.le_refl _) _).alloc (by simp) _, alloc_keeps (alloc_at rfl), alloc_at (by simp), alloc_keeps (alloc_keeps h)⟩ ?_
  rintro wa ⟨hb, kr, ks, kl⟩
  clear h
  refine wp_loop_rounds 3 ?_
  rw [rounds_succ]
  obtain ⟨c0, c1, c2, c3, f0, f1, f2, f3⟩ := blk4 kl
  obtain ⟨s0, s1, t0, t1⟩ := blk2 ks
  have hbig : w.heap.size + 1 < wa.heap.size := lt_of_get ks
  have hne : w.heap.size + 1 ≠ wa.heap.size := Nat.ne_of_lt hbig
  go_wp2_with fail
  refine name_calls (fun wb => Below w.heap.size w wb ∧ wb.heap[w.heap.size]? = some (.cells #[.int .u64 0, .int .u64 0] 24 (0, 0)) ∧ wb.heap[w.heap.size + 1]? = some (.cells #[.int .u64 0, .int .u64 0] 24 (0, 0)) ∧ wb.heap[l]? = some (.cells #[.int .u64 3, .int .u64 0, .int .u64 8, .int .u64 0] 24 (0, 0)))
    ⟨hb.alloc hb.size _, alloc_keeps kr, alloc_keeps ks, alloc_keeps kl⟩ ?_
  clear c0 c1 c2 c3 f0 f1 f2 f3 s0 s1 t0 t1 hne hbig hb kr ks kl
  rintro wb ⟨hb, kr, ks, kl⟩
  refine call_then (m1.out _) ?_
  intro wc hw
  replace hb := below_next hb hb.size hw
  replace kr := keeps hw kr
  replace ks := keeps hw ks
  replace kl := keeps hw kl
  clear hw
  obtain ⟨s0, s1, t0, t1⟩ := blk2 ks
  go_wp2
  have hb' := below_store2 (u := .int .u64 3) (v := .int .u64 0) hb (Nat.le_succ _)
  have kr' := store2_far (u := .int .u64 3) (v := .int .u64 0) kr (Nat.ne_of_lt (Nat.lt_succ_self _))
  have kl' := store2_far (u := .int .u64 3) (v := .int .u64 0) kl (Nat.ne_of_lt (Nat.lt_succ_of_lt hll))
  have ks' := store2 (u := .int .u64 3) (v := .int .u64 0) ks
  clear hb kr ks kl s0 s1 t0 t1
  generalize (wc.setCell ⟨w.heap.size + 1, 0, none⟩ (.int .u64 3)).setCell ⟨w.heap.size + 1, 1, none⟩ (.int .u64 0) = we at *
  have hb := hb'
  have kr := kr'
  have ks := ks'
  have kl := kl'
  clear hb' kr' ks' kl'
  rw [rounds_succ]
  obtain ⟨c0, c1, c2, c3, f0, f1, f2, f3⟩ := blk4 kl
  obtain ⟨s0, s1, t0, t1⟩ := blk2 ks
  have hbig : w.heap.size + 1 < we.heap.size := lt_of_get ks
  have hne : w.heap.size + 1 ≠ we.heap.size := Nat.ne_of_lt hbig
  go_wp2_with fail
  refine name_calls (fun wb => Below w.heap.size w wb ∧ wb.heap[w.heap.size]? = some (.cells #[.int .u64 0, .int .u64 0] 24 (0, 0)) ∧ wb.heap[w.heap.size + 1]? = some (.cells #[.int .u64 3, .int .u64 0] 24 (0, 0)) ∧ wb.heap[l]? = some (.cells #[.int .u64 3, .int .u64 0, .int .u64 8, .int .u64 0] 24 (0, 0)))
    ⟨hb.alloc hb.size _, alloc_keeps kr, alloc_keeps ks, alloc_keeps kl⟩ ?_
  clear c0 c1 c2 c3 f0 f1 f2 f3 s0 s1 t0 t1 hne hbig hb kr ks kl
  rintro wb ⟨hb, kr, ks, kl⟩
  refine call_then (m2.out _) ?_
  intro wc hw
  replace hb := below_next hb hb.size hw
  replace kr := keeps hw kr
  replace ks := keeps hw ks
  replace kl := keeps hw kl
  clear hw
  obtain ⟨s0, s1, t0, t1⟩ := blk2 ks
  go_wp2
  have hb' := below_store2 (u := .int .u64 11) (v := .int .u64 0) hb (Nat.le_succ _)
  have kr' := store2_far (u := .int .u64 11) (v := .int .u64 0) kr (Nat.ne_of_lt (Nat.lt_succ_self _))
  have kl' := store2_far (u := .int .u64 11) (v := .int .u64 0) kl (Nat.ne_of_lt (Nat.lt_succ_of_lt hll))
  have ks' := store2 (u := .int .u64 11) (v := .int .u64 0) ks
  clear hb kr ks kl s0 s1 t0 t1
  generalize (wc.setCell ⟨w.heap.size + 1, 0, none⟩ (.int .u64 11)).setCell ⟨w.heap.size + 1, 1, none⟩ (.int .u64 0) = wf at *
  have hb := hb'
  have kr := kr'
  have ks := ks'
  have kl := kl'
  clear hb' kr' ks' kl'
  rw [rounds_succ]
  obtain ⟨r0, r1, u0, u1⟩ := blk2 kr
  obtain ⟨s0, s1, t0, t1⟩ := blk2 ks
  go_wp2
  obtain ⟨p2, q2, _, _⟩ := blk2 (store2 (u := .int .u64 11) (v := .int .u64 0) kr)
  exact bodyPost_ret (v := .agg #[.int .u64 11, .int .u64 0]) (by simp [results, Try.results34, go_sem, p2, q2]) rfl ⟨rfl, below_store2 hb (Nat.le_refl _)⟩
theorem dot_two (w : World) (p q : Nat)
    (hp : w.heap[p]? = some (.cells #[.int .u64 1, .int .u64 0, .int .u64 2, .int .u64 0] 24 (0, 0)))
    (hq : w.heap[q]? = some (.cells #[.int .u64 3, .int .u64 0, .int .u64 4, .int .u64 0] 24 (0, 0))) :
    Calls Try.prog 42 #[.int .u8 1, .slice (some ⟨p, 0, none⟩) 2 2, .slice (some ⟨q, 0, none⟩) 2 2] w fun e w' => e = .returned (.tuple #[.agg #[.int .u64 11, .int .u64 0], .int .i64 0]) ∧ Below w.heap.size w w' := by
  go_enter Try.func42, Try.ntmps42
  go_wp2_with fail
  refine name_calls (fun w1 => Below w.heap.size w w1 ∧ w1.heap[w.heap.size]? = some (.cells #[.int .u64 0, .int .u64 0] 24 (0, 0)) ∧ w1.heap[p]? = some (.cells #[.int .u64 1, .int .u64 0, .int .u64 2, .int .u64 0] 24 (0, 0)) ∧ w1.heap[q]? = some (.cells #[.int .u64 3, .int .u64 0, .int .u64 4, .int .u64 0] 24 (0, 0)))
    ⟨(Below.refl _ _).alloc (Nat.le_refl _) _, alloc_at rfl, alloc_keeps hp, alloc_keeps hq⟩ ?_
  rintro w1 ⟨hb, kr, kp, kq⟩
  refine (each_two _ p q kp kq).mono ?_
  rintro e w2 ⟨l, rfl, hw2, kl⟩
  replace hb := below_next hb hb.size hw2
  replace kr := keeps hw2 kr
  clear hw2 kp kq hp hq
  go_wp2_with fail
  refine call_then (sum_two _ l kl) ?_
  intro w3 hw3
  replace hb := below_next hb hb.size hw3
  replace kr := keeps hw3 kr
  clear hw3 kl
  obtain ⟨r0, r1, u0, u1⟩ := blk2 kr
  go_wp2
  obtain ⟨p2, q2, _, _⟩ := blk2 (store2 (u := .int .u64 11) (v := .int .u64 0) kr)
  exact bodyPost_ret (v := .tuple #[.agg #[.int .u64 11, .int .u64 0], .int .i64 0]) (by simp [results, Try.results42, go_sem, p2, q2]) rfl ⟨rfl, below_store2 hb (Nat.le_refl _)⟩
theorem fawake_any (w : World) : Calls Try.prog 9 #[] w fun e w' => e = .returned (.bool true) ∧ Below w.heap.size w w' := by
  go_enter Try.func9, Try.ntmps9
  go_wp2_with fail
  refine name_calls (fun w1 => Below w.heap.size w w1 ∧ w1.heap[w.heap.size]? = some (.cells #[.int .u64 1, .int .u64 0, .int .u64 2, .int .u64 0] 24 (0, 0)) ∧ w1.heap[w.heap.size + 1]? = some (.cells #[.int .u64 3, .int .u64 0, .int .u64 4, .int .u64 0] 24 (0, 0)))
    ⟨((Below.refl _ _).alloc (Nat.le_refl _) _).alloc (by simp) _, alloc_keeps (alloc_at rfl), alloc_at (by simp)⟩ ?_
  rintro w1 ⟨hb, kp, kq⟩
  refine call_then (dot_two _ _ _ kp kq) ?_
  intro w2 hw2
  replace hb := below_next hb hb.size hw2
  clear hw2 kp kq
  go_wp2
  go_ret
  exact ⟨rfl, hb.alloc hb.size _⟩
end Go.Proofs.Ytokdbedineoklaa
