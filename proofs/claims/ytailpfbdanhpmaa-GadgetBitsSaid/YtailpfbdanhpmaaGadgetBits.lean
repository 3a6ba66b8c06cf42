/-
  GadgetBits, proved: the gadget of a bit is nought of 0 and of 1 alone; for any byte as the field's number and any two words as the element, with no condition.
-/
import Derived.Test.YtailpfbdanhpmaaGadgetAwake
import Derived.Test.YtailpfbdanhpmaaBitMath
import Derived.Test.YtailpfbdanhpmaaFrame
import Derived.Test.YtailpfbdanhpmaaPost
import Derived.Test.YtailpfbdanhpmaaArr
namespace Go.Proofs.Ytailpfbdanhpmaa
open Go.RowKit Go.WideShapes Go.ChangeShapes F Flow
set_option linter.unusedVariables false
attribute [local go_sem] eql_elem

theorem redu_bound (f x : Int) (hf : f = 1 ∨ f = 2) : 0 ≤ redu f x ∧ redu f x < M f := by
  exact ⟨redu_nonneg f x, redu_lt f x⟩
theorem lohi0 {x : Int} (h : ((lo x == 0) && (hi x == 0)) = true) : x = 0 := by
  rw [Bool.and_eq_true, beq_iff_eq, beq_iff_eq] at h
  rw [← val_lohi x, h.1, h.2]
  rfl
theorem lohi1 {x : Int} (h : ((lo x == 1) && (hi x == 0)) = true) : x = 1 := by
  rw [Bool.and_eq_true, beq_iff_eq, beq_iff_eq] at h
  rw [← val_lohi x, h.1, h.2]
  rfl
theorem bit_cases {A z : Int} (h : z = 0 ↔ A = 0 ∨ A = 1) : (A = 0 ∧ z = 0) ∨ (A = 1 ∧ z = 0) ∨ (((lo A == 0) && (hi A == 0)) = false ∧ ((lo A == 1) && (hi A == 0)) = false ∧ ((lo z == 0) && (hi z == 0)) = false) := by
  by_cases h0 : A = 0
  · exact .inl ⟨h0, h.2 (.inl h0)⟩
  · by_cases h1 : A = 1
    · exact .inr (.inl ⟨h1, h.2 (.inr h1)⟩)
    · refine .inr (.inr ⟨?_, ?_, ?_⟩)
      · exact Bool.eq_false_iff.2 fun e => h0 (lohi0 e)
      · exact Bool.eq_false_iff.2 fun e => h1 (lohi1 e)
      · exact Bool.eq_false_iff.2 fun e => (h.1 (lohi0 e)).elim h0 h1
set_option maxHeartbeats 4000000 in
theorem bits_one (n a : Int) (a0 : 0 ≤ a) (a1 : a < 340282366920938463463374607431768211456) (hF : ∀ w, Calls Try.prog 6 #[.int .u8 n] w fun e w' => e = .returned (.int .u8 1) ∧ Below w.heap.size w w') (w : World) :
    Calls Try.prog 4 #[.int .u8 n, .agg #[.int .u64 (lo a), .int .u64 (hi a)]] w fun e w' => e = .returned (.bool true) ∧ Below w.heap.size w w' := by
  have hof := Lib.hid (of_any 1 a a0 a1)
  have hA := redu_bound 1 a (by omega)
  have hbit := Lib.hid (bit_cases (bit_iff 1 (redu 1 a) (by omega) hA.1 hA.2))
  have hgA := Lib.hid (fun g q w => gof_one g q (redu 1 a) hA.1 (Int.lt_trans hA.2 (by decide)) w)
  have hg0 : Hid (∀ g q w, ElemsAt w (some ⟨g, 0, none⟩) (bitCoefs 1) → w.heap[q]? = some (.cells #[.int .u64 0, .int .u64 0] 35 (0, 0)) → Calls Try.prog 10 #[bitVal g, .int .u8 1, .slice (some ⟨q, 0, none⟩) 1 1] w fun e w' => e = .returned (.tuple #[.agg #[.int .u64 0, .int .u64 0], .int .i64 0]) ∧ Below w.heap.size w w') := fun g q w hA hq => by
    have h := gof_one g q 0 (by omega) (by omega) w hA hq
    rw [(bit_zero 1 (by omega)).1] at h
    exact h
  have hg1 : Hid (∀ g q w, ElemsAt w (some ⟨g, 0, none⟩) (bitCoefs 1) → w.heap[q]? = some (.cells #[.int .u64 1, .int .u64 0] 35 (0, 0)) → Calls Try.prog 10 #[bitVal g, .int .u8 1, .slice (some ⟨q, 0, none⟩) 1 1] w fun e w' => e = .returned (.tuple #[.agg #[.int .u64 0, .int .u64 0], .int .i64 0]) ∧ Below w.heap.size w w') := fun g q w hA hq => by
    have h := gof_one g q 1 (by omega) (by omega) w hA hq
    rw [(bit_zero 1 (by omega)).2] at h
    exact h
  clear a0 a1 hA
  generalize redu 1 a = A at *
  unfold bitVal at hgA hg0 hg1
  generalize hz (mul 1) (add 1) A (bitCoefs 1) = z at *
  replace hF := Lib.hid hF
  go_enter Try.func4, Try.ntmps4
  go_wp2_with fail
  refine name_calls (fun w1 => Below w.heap.size w w1 ∧ w1.heap[w.heap.size]? = some (.cells #[.int .u64 (lo a), .int .u64 (hi a)] 35 (0, 0))) ⟨(Below.refl _ _).alloc (Nat.le_refl _) _, alloc_at rfl⟩ ?_
  rintro w1 ⟨hb, ka⟩
  refine call_then (gawake _) ?_
  intro w2 hb2
  replace hb := below_next hb hb.size hb2
  replace ka := keeps hb2 ka
  clear hb2
  go_wp2_with fail
  refine call_then (hF.out _) ?_
  intro w2 hb2
  replace hb := below_next hb hb.size hb2
  replace ka := keeps hb2 ka
  clear hb2
  go_wp2_with fail
  refine call_then (hF.out _) ?_
  intro w2 hb2
  replace hb := below_next hb hb.size hb2
  replace ka := keeps hb2 ka
  clear hb2
  obtain ⟨c0, c1, f0, f1⟩ := blk2 ka
  go_wp2_with fail
  refine call_then (hof.out _) ?_
  clear c0 c1 f0 f1
  intro w2 hb2
  replace hb := below_next hb hb.size hb2
  replace ka := keeps hb2 ka
  clear hb2
  have l0 := lt_of_get ka
  obtain ⟨c0, c1, f0, f1⟩ := blk2 ka
  go_wp2_with fail
  refine name_calls (fun w1 => Below w.heap.size w w1 ∧ w1.heap[w.heap.size]? = some (.cells #[.int .u64 (lo A), .int .u64 (hi A)] 35 (0, 0))) ⟨below_store2 hb (Nat.le_refl _), store2 ka⟩ ?_
  clear c0 c1 f0 f1 hb ka l0
  rintro w1 ⟨hb, ka⟩
  refine (gbit_one _).mono ?_
  rintro e w2 ⟨g, rfl, hb2, hrow⟩
  replace hb := below_next hb hb.size hb2
  replace ka := keeps hb2 ka
  clear hb2
  unfold bitVal
  have l0 := lt_of_get ka
  obtain ⟨c0, c1, f0, f1⟩ := blk2 ka
  go_wp2_with fail
  refine name_calls (fun w1 => Below w.heap.size w w1 ∧ w1.heap[w.heap.size]? = some (.cells #[.int .u64 (lo A), .int .u64 (hi A)] 35 (0, 0)) ∧ w1.heap[w2.heap.size]? = some (.cells #[.int .u8 2, .slice (some ⟨g, 0, none⟩) 3 3, .int .i64 0] 30 (0, 0)) ∧ Row w1 g (bitCoefs 1) ∧ w1.heap[w2.heap.size + 1]? = some (.cells #[.int .u64 (lo A), .int .u64 (hi A)] 35 (0, 0))) ⟨(hb.alloc hb.size _).alloc (by have := hb.size; simp; omega) _, alloc_keeps (alloc_keeps ka), alloc_keeps (alloc_at rfl), (hrow.alloc _).alloc _, alloc_at (by simp)⟩ ?_
  clear l0 c0 c1 f0 f1 hb ka hrow
  generalize w2.heap.size = p at *
  rintro w1 ⟨hb, ka, kp, hrow, kq⟩
  refine call_then (hgA.out g _ _ hrow.elems kq) ?_
  clear kq
  intro w2 hb2
  replace hb := below_next hb hb.size hb2
  replace ka := keeps hb2 ka
  replace kp := keeps hb2 kp
  replace hrow := hrow.up hb2
  clear hb2
  have l0 := lt_of_get ka
  have l1 := lt_of_get kp
  obtain ⟨c0, c1, f0, f1⟩ := blk2 ka
  obtain ⟨e0, e1, e2, _⟩ := blk3 kp
  go_wp2_with fail
  refine name_calls (fun w1 => Below w.heap.size w w1 ∧ w1.heap[w.heap.size]? = some (.cells #[.int .u64 (lo A), .int .u64 (hi A)] 35 (0, 0)) ∧ w1.heap[p]? = some (.cells #[.int .u8 2, .slice (some ⟨g, 0, none⟩) 3 3, .int .i64 0] 30 (0, 0)) ∧ Row w1 g (bitCoefs 1) ∧ w1.heap[w2.heap.size]? = some (.cells #[.int .u64 (lo z), .int .u64 (hi z)] 35 (0, 0)) ∧ w1.heap[w2.heap.size + 1]? = some (.cells #[.int .u64 0, .int .u64 0] 35 (0, 0))) ⟨(hb.alloc hb.size _).alloc (by have := hb.size; simp; omega) _, alloc_keeps (alloc_keeps ka), alloc_keeps (alloc_keeps kp), (hrow.alloc _).alloc _, alloc_keeps (alloc_at rfl), alloc_at (by simp)⟩ ?_
  clear l0 l1 c0 c1 f0 f1 e0 e1 e2 hb ka kp hrow
  generalize w2.heap.size = py at *
  rintro w1 ⟨hb, ka, kp, hrow, ky, kq⟩
  refine call_then (hg0.out g _ _ hrow.elems kq) ?_
  clear kq
  intro w2 hb2
  replace hb := below_next hb hb.size hb2
  replace ka := keeps hb2 ka
  replace kp := keeps hb2 kp
  replace hrow := hrow.up hb2
  replace ky := keeps hb2 ky
  clear hb2
  have l0 := lt_of_get ka
  have l1 := lt_of_get kp
  obtain ⟨c0, c1, f0, f1⟩ := blk2 ka
  obtain ⟨e0, e1, e2, _⟩ := blk3 kp
  go_wp2_with fail
  refine name_calls (fun w1 => Below w.heap.size w w1 ∧ w1.heap[w.heap.size]? = some (.cells #[.int .u64 (lo A), .int .u64 (hi A)] 35 (0, 0)) ∧ w1.heap[p]? = some (.cells #[.int .u8 2, .slice (some ⟨g, 0, none⟩) 3 3, .int .i64 0] 30 (0, 0)) ∧ Row w1 g (bitCoefs 1) ∧ w1.heap[py]? = some (.cells #[.int .u64 (lo z), .int .u64 (hi z)] 35 (0, 0)) ∧ w1.heap[w2.heap.size]? = some (.cells #[.int .u64 0, .int .u64 0] 35 (0, 0)) ∧ w1.heap[w2.heap.size + 1]? = some (.cells #[.int .u64 1, .int .u64 0] 35 (0, 0))) ⟨(hb.alloc hb.size _).alloc (by have := hb.size; simp; omega) _, alloc_keeps (alloc_keeps ka), alloc_keeps (alloc_keeps kp), (hrow.alloc _).alloc _, alloc_keeps (alloc_keeps ky), alloc_keeps (alloc_at rfl), alloc_at (by simp)⟩ ?_
  clear l0 l1 c0 c1 f0 f1 e0 e1 e2 hb ka kp hrow ky
  generalize w2.heap.size = pn at *
  rintro w1 ⟨hb, ka, kp, hrow, ky, kn, kq⟩
  refine call_then (hg1.out g _ _ hrow.elems kq) ?_
  clear kq
  intro w2 hb2
  replace hb := below_next hb hb.size hb2
  replace ka := keeps hb2 ka
  replace kp := keeps hb2 kp
  replace hrow := hrow.up hb2
  replace ky := keeps hb2 ky
  replace kn := keeps hb2 kn
  clear hb2
  have l0 := lt_of_get ka
  have l1 := lt_of_get kp
  obtain ⟨c0, c1, f0, f1⟩ := blk2 ka
  obtain ⟨e0, e1, e2, _⟩ := blk3 kp
  have hcase : Hid ((A = 0 ∧ z = 0) ∨ (A = 1 ∧ z = 0) ∨ (((lo A == 0) && (hi A == 0)) = false ∧ ((lo A == 1) && (hi A == 0)) = false ∧ ((lo z == 0) && (hi z == 0)) = false)) := hbit.out
  clear hbit
  rcases hcase with ⟨hA, hz⟩ | ⟨hA, hz⟩ | ⟨hA0, hA1, hz⟩
  · subst hA hz
    rw [show lo 0 = 0 by decide, show hi 0 = 0 by decide] at *
    go_wp2_with fail
    refine name_calls (fun w1 => Below w.heap.size w w1 ∧ w1.heap[w.heap.size]? = some (.cells #[.int .u64 0, .int .u64 0] 35 (0, 0)) ∧ Row w1 g (bitCoefs _) ∧ w1.heap[py]? = some (.cells #[.int .u64 0, .int .u64 0] 35 (0, 0)) ∧ w1.heap[pn]? = some (.cells #[.int .u64 0, .int .u64 0] 35 (0, 0)) ∧ w1.heap[w2.heap.size]? = some (.cells #[.int .u64 0, .int .u64 0] 35 (0, 0))) ⟨hb.alloc hb.size _, alloc_keeps ka, hrow.alloc _, alloc_keeps ky, alloc_keeps kn, alloc_at rfl⟩ ?_
    clear l0 l1 c0 c1 f0 f1 e0 e1 e2 hb ka kp hrow ky kn
    generalize w2.heap.size = po at *
    rintro w1 ⟨hb, ka, hrow, ky, kn, ko⟩
    refine call_then (gcheck_one g _ hrow.elems) ?_
    intro w2 hb2
    replace hb := below_next hb hb.size hb2
    replace ka := keeps hb2 ka
    replace ky := keeps hb2 ky
    replace kn := keeps hb2 kn
    replace ko := keeps hb2 ko
    clear hb2
    obtain ⟨c0, c1, _, _⟩ := blk2 ka
    obtain ⟨d0, d1, _, _⟩ := blk2 ky
    obtain ⟨e0, e1, _, _⟩ := blk2 kn
    obtain ⟨f0, f1, _, _⟩ := blk2 ko
    go_wp2
    go_ret
    exact ⟨rfl, hb⟩
  · subst hA hz
    rw [show lo 0 = 0 by decide, show hi 0 = 0 by decide, show lo 1 = 1 by decide, show hi 1 = 0 by decide] at *
    go_wp2_with fail
    refine name_calls (fun w1 => Below w.heap.size w w1 ∧ w1.heap[w.heap.size]? = some (.cells #[.int .u64 1, .int .u64 0] 35 (0, 0)) ∧ Row w1 g (bitCoefs _) ∧ w1.heap[py]? = some (.cells #[.int .u64 0, .int .u64 0] 35 (0, 0)) ∧ w1.heap[pn]? = some (.cells #[.int .u64 0, .int .u64 0] 35 (0, 0)) ∧ w1.heap[w2.heap.size]? = some (.cells #[.int .u64 0, .int .u64 0] 35 (0, 0))) ⟨hb.alloc hb.size _, alloc_keeps ka, hrow.alloc _, alloc_keeps ky, alloc_keeps kn, alloc_at rfl⟩ ?_
    clear l0 l1 c0 c1 f0 f1 e0 e1 e2 hb ka kp hrow ky kn
    generalize w2.heap.size = po at *
    rintro w1 ⟨hb, ka, hrow, ky, kn, ko⟩
    refine call_then (gcheck_one g _ hrow.elems) ?_
    intro w2 hb2
    replace hb := below_next hb hb.size hb2
    replace ka := keeps hb2 ka
    replace ky := keeps hb2 ky
    replace kn := keeps hb2 kn
    replace ko := keeps hb2 ko
    clear hb2
    obtain ⟨c0, c1, _, _⟩ := blk2 ka
    obtain ⟨d0, d1, _, _⟩ := blk2 ky
    obtain ⟨e0, e1, _, _⟩ := blk2 kn
    obtain ⟨f0, f1, _, _⟩ := blk2 ko
    go_wp2
    go_ret
    exact ⟨rfl, hb⟩
  · go_wp2_with fail
    refine name_calls (fun w1 => Below w.heap.size w w1 ∧ w1.heap[w.heap.size]? = some (.cells #[.int .u64 (lo A), .int .u64 (hi A)] 35 (0, 0)) ∧ Row w1 g (bitCoefs _) ∧ w1.heap[py]? = some (.cells #[.int .u64 (lo z), .int .u64 (hi z)] 35 (0, 0)) ∧ w1.heap[pn]? = some (.cells #[.int .u64 0, .int .u64 0] 35 (0, 0)) ∧ w1.heap[w2.heap.size]? = some (.cells #[.int .u64 0, .int .u64 0] 35 (0, 0))) ⟨hb.alloc hb.size _, alloc_keeps ka, hrow.alloc _, alloc_keeps ky, alloc_keeps kn, alloc_at rfl⟩ ?_
    clear l0 l1 c0 c1 f0 f1 e0 e1 e2 hb ka kp hrow ky kn
    generalize w2.heap.size = po at *
    rintro w1 ⟨hb, ka, hrow, ky, kn, ko⟩
    refine call_then (gcheck_one g _ hrow.elems) ?_
    intro w2 hb2
    replace hb := below_next hb hb.size hb2
    replace ka := keeps hb2 ka
    replace ky := keeps hb2 ky
    replace kn := keeps hb2 kn
    replace ko := keeps hb2 ko
    clear hb2
    obtain ⟨c0, c1, _, _⟩ := blk2 ka
    obtain ⟨d0, d1, _, _⟩ := blk2 ky
    obtain ⟨e0, e1, _, _⟩ := blk2 kn
    obtain ⟨f0, f1, _, _⟩ := blk2 ko
    go_wp2
    go_ret
    exact ⟨rfl, hb⟩
set_option maxHeartbeats 4000000 in
theorem bits_two (n a : Int) (a0 : 0 ≤ a) (a1 : a < 340282366920938463463374607431768211456) (hF : ∀ w, Calls Try.prog 6 #[.int .u8 n] w fun e w' => e = .returned (.int .u8 2) ∧ Below w.heap.size w w') (w : World) :
    Calls Try.prog 4 #[.int .u8 n, .agg #[.int .u64 (lo a), .int .u64 (hi a)]] w fun e w' => e = .returned (.bool true) ∧ Below w.heap.size w w' := by
  have hof := Lib.hid (of_any 2 a a0 a1)
  have hA := redu_bound 2 a (by omega)
  have hbit := Lib.hid (bit_cases (bit_iff 2 (redu 2 a) (by omega) hA.1 hA.2))
  have hgA := Lib.hid (fun g q w => gof_two g q (redu 2 a) hA.1 (Int.lt_trans hA.2 (by decide)) w)
  have hg0 : Hid (∀ g q w, ElemsAt w (some ⟨g, 0, none⟩) (bitCoefs 2) → w.heap[q]? = some (.cells #[.int .u64 0, .int .u64 0] 35 (0, 0)) → Calls Try.prog 10 #[bitVal g, .int .u8 2, .slice (some ⟨q, 0, none⟩) 1 1] w fun e w' => e = .returned (.tuple #[.agg #[.int .u64 0, .int .u64 0], .int .i64 0]) ∧ Below w.heap.size w w') := fun g q w hA hq => by
    have h := gof_two g q 0 (by omega) (by omega) w hA hq
    rw [(bit_zero 2 (by omega)).1] at h
    exact h
  have hg1 : Hid (∀ g q w, ElemsAt w (some ⟨g, 0, none⟩) (bitCoefs 2) → w.heap[q]? = some (.cells #[.int .u64 1, .int .u64 0] 35 (0, 0)) → Calls Try.prog 10 #[bitVal g, .int .u8 2, .slice (some ⟨q, 0, none⟩) 1 1] w fun e w' => e = .returned (.tuple #[.agg #[.int .u64 0, .int .u64 0], .int .i64 0]) ∧ Below w.heap.size w w') := fun g q w hA hq => by
    have h := gof_two g q 1 (by omega) (by omega) w hA hq
    rw [(bit_zero 2 (by omega)).2] at h
    exact h
  clear a0 a1 hA
  generalize redu 2 a = A at *
  unfold bitVal at hgA hg0 hg1
  generalize hz (mul 2) (add 2) A (bitCoefs 2) = z at *
  replace hF := Lib.hid hF
  go_enter Try.func4, Try.ntmps4
  go_wp2_with fail
  refine name_calls (fun w1 => Below w.heap.size w w1 ∧ w1.heap[w.heap.size]? = some (.cells #[.int .u64 (lo a), .int .u64 (hi a)] 35 (0, 0))) ⟨(Below.refl _ _).alloc (Nat.le_refl _) _, alloc_at rfl⟩ ?_
  rintro w1 ⟨hb, ka⟩
  refine call_then (gawake _) ?_
  intro w2 hb2
  replace hb := below_next hb hb.size hb2
  replace ka := keeps hb2 ka
  clear hb2
  go_wp2_with fail
  refine call_then (hF.out _) ?_
  intro w2 hb2
  replace hb := below_next hb hb.size hb2
  replace ka := keeps hb2 ka
  clear hb2
  go_wp2_with fail
  refine call_then (hF.out _) ?_
  intro w2 hb2
  replace hb := below_next hb hb.size hb2
  replace ka := keeps hb2 ka
  clear hb2
  obtain ⟨c0, c1, f0, f1⟩ := blk2 ka
  go_wp2_with fail
  refine call_then (hof.out _) ?_
  clear c0 c1 f0 f1
  intro w2 hb2
  replace hb := below_next hb hb.size hb2
  replace ka := keeps hb2 ka
  clear hb2
  have l0 := lt_of_get ka
  obtain ⟨c0, c1, f0, f1⟩ := blk2 ka
  go_wp2_with fail
  refine name_calls (fun w1 => Below w.heap.size w w1 ∧ w1.heap[w.heap.size]? = some (.cells #[.int .u64 (lo A), .int .u64 (hi A)] 35 (0, 0))) ⟨below_store2 hb (Nat.le_refl _), store2 ka⟩ ?_
  clear c0 c1 f0 f1 hb ka l0
  rintro w1 ⟨hb, ka⟩
  refine (gbit_two _).mono ?_
  rintro e w2 ⟨g, rfl, hb2, hrow⟩
  replace hb := below_next hb hb.size hb2
  replace ka := keeps hb2 ka
  clear hb2
  unfold bitVal
  have l0 := lt_of_get ka
  obtain ⟨c0, c1, f0, f1⟩ := blk2 ka
  go_wp2_with fail
  refine name_calls (fun w1 => Below w.heap.size w w1 ∧ w1.heap[w.heap.size]? = some (.cells #[.int .u64 (lo A), .int .u64 (hi A)] 35 (0, 0)) ∧ w1.heap[w2.heap.size]? = some (.cells #[.int .u8 2, .slice (some ⟨g, 0, none⟩) 3 3, .int .i64 0] 30 (0, 0)) ∧ Row w1 g (bitCoefs 2) ∧ w1.heap[w2.heap.size + 1]? = some (.cells #[.int .u64 (lo A), .int .u64 (hi A)] 35 (0, 0))) ⟨(hb.alloc hb.size _).alloc (by have := hb.size; simp; omega) _, alloc_keeps (alloc_keeps ka), alloc_keeps (alloc_at rfl), (hrow.alloc _).alloc _, alloc_at (by simp)⟩ ?_
  clear l0 c0 c1 f0 f1 hb ka hrow
  generalize w2.heap.size = p at *
  rintro w1 ⟨hb, ka, kp, hrow, kq⟩
  refine call_then (hgA.out g _ _ hrow.elems kq) ?_
  clear kq
  intro w2 hb2
  replace hb := below_next hb hb.size hb2
  replace ka := keeps hb2 ka
  replace kp := keeps hb2 kp
  replace hrow := hrow.up hb2
  clear hb2
  have l0 := lt_of_get ka
  have l1 := lt_of_get kp
  obtain ⟨c0, c1, f0, f1⟩ := blk2 ka
  obtain ⟨e0, e1, e2, _⟩ := blk3 kp
  go_wp2_with fail
  refine name_calls (fun w1 => Below w.heap.size w w1 ∧ w1.heap[w.heap.size]? = some (.cells #[.int .u64 (lo A), .int .u64 (hi A)] 35 (0, 0)) ∧ w1.heap[p]? = some (.cells #[.int .u8 2, .slice (some ⟨g, 0, none⟩) 3 3, .int .i64 0] 30 (0, 0)) ∧ Row w1 g (bitCoefs 2) ∧ w1.heap[w2.heap.size]? = some (.cells #[.int .u64 (lo z), .int .u64 (hi z)] 35 (0, 0)) ∧ w1.heap[w2.heap.size + 1]? = some (.cells #[.int .u64 0, .int .u64 0] 35 (0, 0))) ⟨(hb.alloc hb.size _).alloc (by have := hb.size; simp; omega) _, alloc_keeps (alloc_keeps ka), alloc_keeps (alloc_keeps kp), (hrow.alloc _).alloc _, alloc_keeps (alloc_at rfl), alloc_at (by simp)⟩ ?_
  clear l0 l1 c0 c1 f0 f1 e0 e1 e2 hb ka kp hrow
  generalize w2.heap.size = py at *
  rintro w1 ⟨hb, ka, kp, hrow, ky, kq⟩
  refine call_then (hg0.out g _ _ hrow.elems kq) ?_
  clear kq
  intro w2 hb2
  replace hb := below_next hb hb.size hb2
  replace ka := keeps hb2 ka
  replace kp := keeps hb2 kp
  replace hrow := hrow.up hb2
  replace ky := keeps hb2 ky
  clear hb2
  have l0 := lt_of_get ka
  have l1 := lt_of_get kp
  obtain ⟨c0, c1, f0, f1⟩ := blk2 ka
  obtain ⟨e0, e1, e2, _⟩ := blk3 kp
  go_wp2_with fail
  refine name_calls (fun w1 => Below w.heap.size w w1 ∧ w1.heap[w.heap.size]? = some (.cells #[.int .u64 (lo A), .int .u64 (hi A)] 35 (0, 0)) ∧ w1.heap[p]? = some (.cells #[.int .u8 2, .slice (some ⟨g, 0, none⟩) 3 3, .int .i64 0] 30 (0, 0)) ∧ Row w1 g (bitCoefs 2) ∧ w1.heap[py]? = some (.cells #[.int .u64 (lo z), .int .u64 (hi z)] 35 (0, 0)) ∧ w1.heap[w2.heap.size]? = some (.cells #[.int .u64 0, .int .u64 0] 35 (0, 0)) ∧ w1.heap[w2.heap.size + 1]? = some (.cells #[.int .u64 1, .int .u64 0] 35 (0, 0))) ⟨(hb.alloc hb.size _).alloc (by have := hb.size; simp; omega) _, alloc_keeps (alloc_keeps ka), alloc_keeps (alloc_keeps kp), (hrow.alloc _).alloc _, alloc_keeps (alloc_keeps ky), alloc_keeps (alloc_at rfl), alloc_at (by simp)⟩ ?_
  clear l0 l1 c0 c1 f0 f1 e0 e1 e2 hb ka kp hrow ky
  generalize w2.heap.size = pn at *
  rintro w1 ⟨hb, ka, kp, hrow, ky, kn, kq⟩
  refine call_then (hg1.out g _ _ hrow.elems kq) ?_
  clear kq
  intro w2 hb2
  replace hb := below_next hb hb.size hb2
  replace ka := keeps hb2 ka
  replace kp := keeps hb2 kp
  replace hrow := hrow.up hb2
  replace ky := keeps hb2 ky
  replace kn := keeps hb2 kn
  clear hb2
  have l0 := lt_of_get ka
  have l1 := lt_of_get kp
  obtain ⟨c0, c1, f0, f1⟩ := blk2 ka
  obtain ⟨e0, e1, e2, _⟩ := blk3 kp
  have hcase : Hid ((A = 0 ∧ z = 0) ∨ (A = 1 ∧ z = 0) ∨ (((lo A == 0) && (hi A == 0)) = false ∧ ((lo A == 1) && (hi A == 0)) = false ∧ ((lo z == 0) && (hi z == 0)) = false)) := hbit.out
  clear hbit
  rcases hcase with ⟨hA, hz⟩ | ⟨hA, hz⟩ | ⟨hA0, hA1, hz⟩
  · subst hA hz
    rw [show lo 0 = 0 by decide, show hi 0 = 0 by decide] at *
    go_wp2_with fail
    refine name_calls (fun w1 => Below w.heap.size w w1 ∧ w1.heap[w.heap.size]? = some (.cells #[.int .u64 0, .int .u64 0] 35 (0, 0)) ∧ Row w1 g (bitCoefs _) ∧ w1.heap[py]? = some (.cells #[.int .u64 0, .int .u64 0] 35 (0, 0)) ∧ w1.heap[pn]? = some (.cells #[.int .u64 0, .int .u64 0] 35 (0, 0)) ∧ w1.heap[w2.heap.size]? = some (.cells #[.int .u64 0, .int .u64 0] 35 (0, 0))) ⟨hb.alloc hb.size _, alloc_keeps ka, hrow.alloc _, alloc_keeps ky, alloc_keeps kn, alloc_at rfl⟩ ?_
    clear l0 l1 c0 c1 f0 f1 e0 e1 e2 hb ka kp hrow ky kn
    generalize w2.heap.size = po at *
    rintro w1 ⟨hb, ka, hrow, ky, kn, ko⟩
    refine call_then (gcheck_two g _ hrow.elems) ?_
    intro w2 hb2
    replace hb := below_next hb hb.size hb2
    replace ka := keeps hb2 ka
    replace ky := keeps hb2 ky
    replace kn := keeps hb2 kn
    replace ko := keeps hb2 ko
    clear hb2
    obtain ⟨c0, c1, _, _⟩ := blk2 ka
    obtain ⟨d0, d1, _, _⟩ := blk2 ky
    obtain ⟨e0, e1, _, _⟩ := blk2 kn
    obtain ⟨f0, f1, _, _⟩ := blk2 ko
    go_wp2
    go_ret
    exact ⟨rfl, hb⟩
  · subst hA hz
    rw [show lo 0 = 0 by decide, show hi 0 = 0 by decide, show lo 1 = 1 by decide, show hi 1 = 0 by decide] at *
    go_wp2_with fail
    refine name_calls (fun w1 => Below w.heap.size w w1 ∧ w1.heap[w.heap.size]? = some (.cells #[.int .u64 1, .int .u64 0] 35 (0, 0)) ∧ Row w1 g (bitCoefs _) ∧ w1.heap[py]? = some (.cells #[.int .u64 0, .int .u64 0] 35 (0, 0)) ∧ w1.heap[pn]? = some (.cells #[.int .u64 0, .int .u64 0] 35 (0, 0)) ∧ w1.heap[w2.heap.size]? = some (.cells #[.int .u64 0, .int .u64 0] 35 (0, 0))) ⟨hb.alloc hb.size _, alloc_keeps ka, hrow.alloc _, alloc_keeps ky, alloc_keeps kn, alloc_at rfl⟩ ?_
    clear l0 l1 c0 c1 f0 f1 e0 e1 e2 hb ka kp hrow ky kn
    generalize w2.heap.size = po at *
    rintro w1 ⟨hb, ka, hrow, ky, kn, ko⟩
    refine call_then (gcheck_two g _ hrow.elems) ?_
    intro w2 hb2
    replace hb := below_next hb hb.size hb2
    replace ka := keeps hb2 ka
    replace ky := keeps hb2 ky
    replace kn := keeps hb2 kn
    replace ko := keeps hb2 ko
    clear hb2
    obtain ⟨c0, c1, _, _⟩ := blk2 ka
    obtain ⟨d0, d1, _, _⟩ := blk2 ky
    obtain ⟨e0, e1, _, _⟩ := blk2 kn
    obtain ⟨f0, f1, _, _⟩ := blk2 ko
    go_wp2
    go_ret
    exact ⟨rfl, hb⟩
  · go_wp2_with fail
    refine name_calls (fun w1 => Below w.heap.size w w1 ∧ w1.heap[w.heap.size]? = some (.cells #[.int .u64 (lo A), .int .u64 (hi A)] 35 (0, 0)) ∧ Row w1 g (bitCoefs _) ∧ w1.heap[py]? = some (.cells #[.int .u64 (lo z), .int .u64 (hi z)] 35 (0, 0)) ∧ w1.heap[pn]? = some (.cells #[.int .u64 0, .int .u64 0] 35 (0, 0)) ∧ w1.heap[w2.heap.size]? = some (.cells #[.int .u64 0, .int .u64 0] 35 (0, 0))) ⟨hb.alloc hb.size _, alloc_keeps ka, hrow.alloc _, alloc_keeps ky, alloc_keeps kn, alloc_at rfl⟩ ?_
    clear l0 l1 c0 c1 f0 f1 e0 e1 e2 hb ka kp hrow ky kn
    generalize w2.heap.size = po at *
    rintro w1 ⟨hb, ka, hrow, ky, kn, ko⟩
    refine call_then (gcheck_two g _ hrow.elems) ?_
    intro w2 hb2
    replace hb := below_next hb hb.size hb2
    replace ka := keeps hb2 ka
    replace ky := keeps hb2 ky
    replace kn := keeps hb2 kn
    replace ko := keeps hb2 ko
    clear hb2
    obtain ⟨c0, c1, _, _⟩ := blk2 ka
    obtain ⟨d0, d1, _, _⟩ := blk2 ky
    obtain ⟨e0, e1, _, _⟩ := blk2 kn
    obtain ⟨f0, f1, _, _⟩ := blk2 ko
    go_wp2
    go_ret
    exact ⟨rfl, hb⟩
theorem gadgetBits_walk (n a : Int) (wn : (Lit.int .u8 n).wf = true) (a0 : 0 ≤ a) (a1 : a < 340282366920938463463374607431768211456) (w : World) :
    Calls Try.prog 4 #[.int .u8 n, .agg #[.int .u64 (lo a), .int .u64 (hi a)]] w fun e w' => e = .returned (.bool true) ∧ Below w.heap.size w w' := by
  have h : 0 ≤ n ∧ n ≤ 255 := by simpa [Lit.wf, IntKind.min, IntKind.max, IntKind.signed, IntKind.bits] using wn
  rcases Int.emod_two_eq n with hn | hn
  · exact bits_one n a a0 a1 (F_even n hn h.1 h.2) w
  · exact bits_two n a a0 a1 (F_odd n hn h.1 h.2) w

theorem own_gadgetBits : ownKnob Try.prog.godebug = none := by kernel_rfl
set_option maxRecDepth 100000 in
theorem lifted_gadgetBits (os : Os) (started : os.Started) (H : Type) (enc : TypeId × Value → H) :
    ReturnsInHanded {} Try.checked os 4 .any (Rows.gadgetBitsSpec.pre6 enc Try.prog Try.f4 Rows.gadgetBitsRow.domain false) (Rows.gadgetBitsSpec.post enc Try.prog Try.f4 false true false false) := by
  refine returnsInHanded_of_change (C := Try.checked) own_gadgetBits started (by kernel_rfl) Try.func4
    (ChangeSpec.witness6 (enc := enc) (C := Try.checked) false ⟨#[], #[.int .u8 0, .agg #[.int .u64 0, .int .u64 0]], []⟩ 8 (by kernel_rfl) (by kernel_rfl) (by kernel_rfl) (by kernel_rfl)) ?_
  intro W base args ds gs before hval0 hW hcnd _
  have hval : ∀ (j : Nat) t v, Try.f4.params[j]? = some t → args[j]? = some v → Value.okWide Try.prog W .any base t v := hval0
  have hW' := hW
  obtain ⟨p, q, hA0, hV, rfl, hfz, hnd⟩ := hW
  have hA : DataW.TrodAll enc Try.prog W 0 (fun _ => true) true Try.f4.params.toList args.toList ds p := hA0
  rw [Try.params4] at hA hval
  clear hA0 hval0
  obtain ⟨v0, vs0, d0, ds0, p0, q0, hargs, rfl, rfl, h0, r0⟩ := trodAll_cons hA
  obtain ⟨v1, vs1, d1, ds1, p1, q1, rfl, rfl, rfl, h1, r1⟩ := trodAll_cons r0
  obtain ⟨rfl, rfl, rfl⟩ := trodAll_nil r1
  obtain rfl : args = #[v0, v1] := by cases args; simp_all
  obtain ⟨rfl, rfl⟩ := trodVars_none hV
  obtain ⟨a0, rfl, _, _, w0⟩ := open_int Try.underlying5 (hval 0 5 v0 rfl rfl) h0
  obtain ⟨a1, w1, u1, rfl, _, _⟩ := open_elem (hval 1 35 v1 rfl rfl) h1
  refine (gadgetBits_walk a0 a1 w0 w1 u1 W).mono fun e W' ⟨he, hb⟩ => ?_
  subst he
  exact ⟨_, rfl, law_true (by decide +kernel) rfl rfl Try.underlying4 hW' rfl hb⟩
theorem over_gadgetBits : Rows.gadgetBitsRow.holds Try.pinned (OpenSpec.ofChange Rows.gadgetBitsSpec) :=
  OpenClaim.holds_of_wide 4 Try.f4 rfl rfl rfl rfl rfl rfl rfl ⟨rfl, rfl, rfl, rfl, rfl⟩ rfl rfl rfl rfl rfl (by kernel_rfl) Try.func4 (by kernel_rfl)
    (of_decide_eq_true (by kernel_rfl)) (by unfold Func.isWrapper; first | (rw [if_pos (by decide +kernel)]; kernel_rfl) | (rw [if_neg (by decide +kernel)]; exact ⟨rfl, rfl⟩))
    (fun os started H enc _ => lifted_gadgetBits os started H enc)
theorem gadgetBits_proved : Rows.GadgetBitsSaid := over_gadgetBits
#print axioms gadgetBits_proved
end Go.Proofs.Ytailpfbdanhpmaa
