/-
  Contracts of the gadget Bit: Check, Of.
-/
import Derived.Test.YtgdokfchfgnbbaaGadgetBit
import Derived.Test.YtgdokfchfgnbbaaBE
namespace Go.Proofs.Ytgdokfchfgnbbaa
open Go.RowKit F Flow
set_option linter.unusedVariables false
attribute [local go_sem] eql_elem

theorem garity (g : Nat) (w : World) : Calls Try.prog 25 #[bitVal g] w fun e w' => e = .returned (.int .i64 1) ∧ Below w.heap.size w w' := by
  unfold bitVal
  go_enter Try.func25, Try.ntmps25
  go_wp2
  go_ret
  exact ⟨rfl, (Below.refl _ _).alloc (Nat.le_refl _) _⟩
set_option maxHeartbeats 2000000 in
theorem gcheck_one (g : Nat) (w : World) (hA : ElemsAt w (some ⟨g, 0, none⟩) (bitCoefs 1)) : Calls Try.prog 28 #[bitVal g, .int .u8 1] w fun e w' => e = .returned (.int .i64 0) ∧ Below w.heap.size w w' := by
  have hcs := Lib.hid (fun w' h => gcoefs_one g w' h)
  unfold bitVal at *
  go_enter Try.func28, Try.ntmps28
  go_wp2_with fail
  refine name_calls (fun w1 => Below w.heap.size w w1 ∧ w1.heap[w.heap.size]? = some (.cells #[.int .u8 2, .slice (some ⟨g, 0, none⟩) 3 3, .int .i64 0] 40 (0, 0))) ⟨(Below.refl _ _).alloc (Nat.le_refl _) _, alloc_at rfl⟩ ?_
  rintro w1 ⟨hb, k0⟩
  refine call_then (fvalid_one _) ?_
  intro w2 hb2
  replace hb := below_next hb hb.size hb2
  replace k0 := keeps hb2 k0
  clear hb2
  obtain ⟨c0, c1, c2, _⟩ := blk3 k0
  go_wp2_with fail
  refine call_then (hcs.out _ (hA.up hb)) ?_
  intro w2 hb2
  replace hb := below_next hb hb.size hb2
  replace k0 := keeps hb2 k0
  clear hb2
  go_wp2
  go_ret
  exact ⟨rfl, hb⟩
set_option maxHeartbeats 2000000 in
theorem gcheckin_one (g : Nat) (w : World) (hA : ElemsAt w (some ⟨g, 0, none⟩) (bitCoefs 1)) : Calls Try.prog 83 #[bitVal g, .int .u8 1, .int .i64 1] w fun e w' => e = .returned (.int .i64 0) ∧ Below w.heap.size w w' := by
  have hcs := Lib.hid (fun w' h => gcheck_one g w' h)
  have har := Lib.hid (fun w' => garity g w')
  unfold bitVal at *
  go_enter Try.func83, Try.ntmps83
  go_wp2_with fail
  refine name_calls (fun w1 => Below w.heap.size w w1 ∧ w1.heap[w.heap.size]? = some (.cells #[.int .u8 2, .slice (some ⟨g, 0, none⟩) 3 3, .int .i64 0] 40 (0, 0))) ⟨(Below.refl _ _).alloc (Nat.le_refl _) _, alloc_at rfl⟩ ?_
  rintro w1 ⟨hb, k0⟩
  refine call_then (hcs.out _ (hA.up hb)) ?_
  intro w2 hb2
  replace hb := below_next hb hb.size hb2
  replace k0 := keeps hb2 k0
  clear hb2
  obtain ⟨c0, c1, c2, _⟩ := blk3 k0
  go_wp2_with fail
  clear c0 c1 c2
  refine call_then (har.out _) ?_
  intro w2 hb2
  replace hb := below_next hb hb.size hb2
  replace k0 := keeps hb2 k0
  clear hb2
  go_wp2
  go_ret
  exact ⟨rfl, hb⟩
set_option maxHeartbeats 2000000 in
theorem gof_one (g q : Nat) (a : Int) (a0 : 0 ≤ a) (a1 : a < 340282366920938463463374607431768211456) (w : World) (hA : ElemsAt w (some ⟨g, 0, none⟩) (bitCoefs 1)) (hq : w.heap[q]? = some (.cells #[.int .u64 (lo a), .int .u64 (hi a)] 56 (0, 0))) :
    Calls Try.prog 47 #[bitVal g, .int .u8 1, .slice (some ⟨q, 0, none⟩) 1 1] w fun e w' => e = .returned (.tuple #[.agg #[.int .u64 (lo (hz (mul 1) (add 1) a (bitCoefs 1))), .int .u64 (hi (hz (mul 1) (add 1) a (bitCoefs 1)))], .int .i64 0]) ∧ Below w.heap.size w w' := by
  have hcs := Lib.hid (fun w' h => gcheckin_one g w' h)
  have hat := Lib.hid (fun w' h => at_any 1 a (mul 1) (add 1) (bitCoefs 1) (some ⟨g, 0, none⟩) 3 (by unfold ElemsOK; decide) (by decide) a0 a1 opBy_mul1 opBy_add1 w' h)
  rw [show (bitCoefs 1).length = 3 from rfl] at hat
  unfold bitVal at *
  generalize hz (mul 1) (add 1) a (bitCoefs 1) = z at *
  go_enter Try.func47, Try.ntmps47
  go_wp2_with fail
  refine name_calls (fun w1 => Below w.heap.size w w1 ∧ w1.heap[w.heap.size]? = some (.cells #[.int .u8 2, .slice (some ⟨g, 0, none⟩) 3 3, .int .i64 0] 40 (0, 0)) ∧ w1.heap[w.heap.size + 1]? = some (.cells #[.int .u64 0, .int .u64 0] 56 (0, 0)) ∧ w1.heap[q]? = some (.cells #[.int .u64 (lo a), .int .u64 (hi a)] 56 (0, 0))) ⟨((Below.refl _ _).alloc (Nat.le_refl _) _).alloc (by simp) _, alloc_keeps (alloc_at rfl), alloc_at (by simp), alloc_keeps (alloc_keeps hq)⟩ ?_
  rintro w1 ⟨hb, k0, kr, kq⟩
  refine call_then (hcs.out _ (hA.up hb)) ?_
  intro w2 hb2
  replace hb := below_next hb hb.size hb2
  replace k0 := keeps hb2 k0
  replace kr := keeps hb2 kr
  replace kq := keeps hb2 kq
  clear hb2
  obtain ⟨c0, c1, c2, _⟩ := blk3 k0
  obtain ⟨d0, d1, d2, d3⟩ := blk2 kq
  go_wp2
  clear c0 c1 c2 d0 d1 d2 d3
  refine wp_region_flow1 7 (by kernel_rfl) (by kernel_rfl) (by kernel_rfl) ?_
  apply Exists.intro
  refine ⟨fun ι _ φ hφ => ?_, fun wt hwt => ?_⟩
  · have a0 : ∀ i, (φ i).cell? ⟨w.heap.size, 1, none⟩ = some (.slice (some ⟨g, 0, none⟩) 3 3) := fun i => (blk3 (keeps (hφ.old i) k0)).2.1
    obtain ⟨a2, a3⟩ := hφ.two kq
    have hat' := fun i => hat.out (φ i) (hA.up (below_next hb hb.size (hφ.old i)))
    simp only [List.take_succ_cons, List.take_zero]
    repeat (go_big_quiet_step ((go_at_call 84; exact flow_call hφ (hat' _))))
    exact wpQuiet_nil rfl
  replace hb := below_next hb hb.size hwt
  replace kr := keeps hwt kr
  clear hwt
  simp only [List.drop_succ_cons, List.drop_zero]
  obtain ⟨s0, s1, s2, s3⟩ := blk2 kr
  go_wp2
  obtain ⟨p2, p3, _, _⟩ := blk2 (store2 (u := .int .u64 (lo z)) (v := .int .u64 (hi z)) kr)
  exact bodyPost_ret (v := .tuple #[.agg #[.int .u64 (lo z), .int .u64 (hi z)], .int .i64 0]) (by simp [results, Try.results47, go_sem, p2, p3]) rfl ⟨rfl, below_store2 hb (Nat.le_succ _)⟩
set_option maxHeartbeats 2000000 in
theorem gcheck_two (g : Nat) (w : World) (hA : ElemsAt w (some ⟨g, 0, none⟩) (bitCoefs 2)) : Calls Try.prog 28 #[bitVal g, .int .u8 2] w fun e w' => e = .returned (.int .i64 0) ∧ Below w.heap.size w w' := by
  have hcs := Lib.hid (fun w' h => gcoefs_two g w' h)
  unfold bitVal at *
  go_enter Try.func28, Try.ntmps28
  go_wp2_with fail
  refine name_calls (fun w1 => Below w.heap.size w w1 ∧ w1.heap[w.heap.size]? = some (.cells #[.int .u8 2, .slice (some ⟨g, 0, none⟩) 3 3, .int .i64 0] 40 (0, 0))) ⟨(Below.refl _ _).alloc (Nat.le_refl _) _, alloc_at rfl⟩ ?_
  rintro w1 ⟨hb, k0⟩
  refine call_then (fvalid_two _) ?_
  intro w2 hb2
  replace hb := below_next hb hb.size hb2
  replace k0 := keeps hb2 k0
  clear hb2
  obtain ⟨c0, c1, c2, _⟩ := blk3 k0
  go_wp2_with fail
  refine call_then (hcs.out _ (hA.up hb)) ?_
  intro w2 hb2
  replace hb := below_next hb hb.size hb2
  replace k0 := keeps hb2 k0
  clear hb2
  go_wp2
  go_ret
  exact ⟨rfl, hb⟩
set_option maxHeartbeats 2000000 in
theorem gcheckin_two (g : Nat) (w : World) (hA : ElemsAt w (some ⟨g, 0, none⟩) (bitCoefs 2)) : Calls Try.prog 83 #[bitVal g, .int .u8 2, .int .i64 1] w fun e w' => e = .returned (.int .i64 0) ∧ Below w.heap.size w w' := by
  have hcs := Lib.hid (fun w' h => gcheck_two g w' h)
  have har := Lib.hid (fun w' => garity g w')
  unfold bitVal at *
  go_enter Try.func83, Try.ntmps83
  go_wp2_with fail
  refine name_calls (fun w1 => Below w.heap.size w w1 ∧ w1.heap[w.heap.size]? = some (.cells #[.int .u8 2, .slice (some ⟨g, 0, none⟩) 3 3, .int .i64 0] 40 (0, 0))) ⟨(Below.refl _ _).alloc (Nat.le_refl _) _, alloc_at rfl⟩ ?_
  rintro w1 ⟨hb, k0⟩
  refine call_then (hcs.out _ (hA.up hb)) ?_
  intro w2 hb2
  replace hb := below_next hb hb.size hb2
  replace k0 := keeps hb2 k0
  clear hb2
  obtain ⟨c0, c1, c2, _⟩ := blk3 k0
  go_wp2_with fail
  clear c0 c1 c2
  refine call_then (har.out _) ?_
  intro w2 hb2
  replace hb := below_next hb hb.size hb2
  replace k0 := keeps hb2 k0
  clear hb2
  go_wp2
  go_ret
  exact ⟨rfl, hb⟩
set_option maxHeartbeats 2000000 in
theorem gof_two (g q : Nat) (a : Int) (a0 : 0 ≤ a) (a1 : a < 340282366920938463463374607431768211456) (w : World) (hA : ElemsAt w (some ⟨g, 0, none⟩) (bitCoefs 2)) (hq : w.heap[q]? = some (.cells #[.int .u64 (lo a), .int .u64 (hi a)] 56 (0, 0))) :
    Calls Try.prog 47 #[bitVal g, .int .u8 2, .slice (some ⟨q, 0, none⟩) 1 1] w fun e w' => e = .returned (.tuple #[.agg #[.int .u64 (lo (hz (mul 2) (add 2) a (bitCoefs 2))), .int .u64 (hi (hz (mul 2) (add 2) a (bitCoefs 2)))], .int .i64 0]) ∧ Below w.heap.size w w' := by
  have hcs := Lib.hid (fun w' h => gcheckin_two g w' h)
  have hat := Lib.hid (fun w' h => at_any 2 a (mul 2) (add 2) (bitCoefs 2) (some ⟨g, 0, none⟩) 3 (by unfold ElemsOK; decide) (by decide) a0 a1 opBy_mul2 opBy_add2 w' h)
  rw [show (bitCoefs 2).length = 3 from rfl] at hat
  unfold bitVal at *
  generalize hz (mul 2) (add 2) a (bitCoefs 2) = z at *
  go_enter Try.func47, Try.ntmps47
  go_wp2_with fail
  refine name_calls (fun w1 => Below w.heap.size w w1 ∧ w1.heap[w.heap.size]? = some (.cells #[.int .u8 2, .slice (some ⟨g, 0, none⟩) 3 3, .int .i64 0] 40 (0, 0)) ∧ w1.heap[w.heap.size + 1]? = some (.cells #[.int .u64 0, .int .u64 0] 56 (0, 0)) ∧ w1.heap[q]? = some (.cells #[.int .u64 (lo a), .int .u64 (hi a)] 56 (0, 0))) ⟨((Below.refl _ _).alloc (Nat.le_refl _) _).alloc (by simp) _, alloc_keeps (alloc_at rfl), alloc_at (by simp), alloc_keeps (alloc_keeps hq)⟩ ?_
  rintro w1 ⟨hb, k0, kr, kq⟩
  refine call_then (hcs.out _ (hA.up hb)) ?_
  intro w2 hb2
  replace hb := below_next hb hb.size hb2
  replace k0 := keeps hb2 k0
  replace kr := keeps hb2 kr
  replace kq := keeps hb2 kq
  clear hb2
  obtain ⟨c0, c1, c2, _⟩ := blk3 k0
  obtain ⟨d0, d1, d2, d3⟩ := blk2 kq
  go_wp2
  clear c0 c1 c2 d0 d1 d2 d3
  refine wp_region_flow1 7 (by kernel_rfl) (by kernel_rfl) (by kernel_rfl) ?_
  apply Exists.intro
  refine ⟨fun ι _ φ hφ => ?_, fun wt hwt => ?_⟩
  · have a0 : ∀ i, (φ i).cell? ⟨w.heap.size, 1, none⟩ = some (.slice (some ⟨g, 0, none⟩) 3 3) := fun i => (blk3 (keeps (hφ.old i) k0)).2.1
    obtain ⟨a2, a3⟩ := hφ.two kq
    have hat' := fun i => hat.out (φ i) (hA.up (below_next hb hb.size (hφ.old i)))
    simp only [List.take_succ_cons, List.take_zero]
    repeat (go_big_quiet_step ((go_at_call 84; exact flow_call hφ (hat' _))))
    exact wpQuiet_nil rfl
  replace hb := below_next hb hb.size hwt
  replace kr := keeps hwt kr
  clear hwt
  simp only [List.drop_succ_cons, List.drop_zero]
  obtain ⟨s0, s1, s2, s3⟩ := blk2 kr
  go_wp2
  obtain ⟨p2, p3, _, _⟩ := blk2 (store2 (u := .int .u64 (lo z)) (v := .int .u64 (hi z)) kr)
  exact bodyPost_ret (v := .tuple #[.agg #[.int .u64 (lo z), .int .u64 (hi z)], .int .i64 0]) (by simp [results, Try.results47, go_sem, p2, p3]) rfl ⟨rfl, below_store2 hb (Nat.le_succ _)⟩
end Go.Proofs.Ytgdokfchfgnbbaa
