/-
  Whatever number it is, elements and bytes they are: what is no field has no sums, no roots, no bytes.
-/
import Derived.Test.YtokdbedineoklaaFieldSum
import Derived.Test.YtokdbedineoklaaSeg
namespace Go.Proofs.Ytokdbedineoklaa
open Go.ChangeShapes Go.WideShapes Go.ChangeAt Go.RowKit F Flow
set_option linter.unusedVariables false
attribute [local go_sem] eql_elem

set_option maxRecDepth 100000 in
set_option maxHeartbeats 1000000 in
theorem fieldNone_big (n a b : Int) (A B : Option Addr) (xs ys : List Int) (c d : Nat) (hbig : 50 < xs.length ∨ 50 < ys.length) (hm : xs.length ≤ maxLen) (hm2 : ys.length ≤ maxLen) (w : World) :
    Calls Try.prog 4 #[.int .u8 n, .agg #[.int .u64 (lo a), .int .u64 (hi a)], .agg #[.int .u64 (lo b), .int .u64 (hi b)], .slice A xs.length c, .slice B ys.length d] w fun e w' => e = .returned (.bool true) ∧ Below w.heap.size w w' := by
  unfold maxLen at hm hm2
  rcases hbig with h | h
  · go_enter Try.func4, Try.ntmps4
    go_wp2_with fail
    refine name_calls (fun w1 => Below w.heap.size w w1 ∧ Holds w1 w.heap.size a ∧ Holds w1 (w.heap.size + 1) b)
      ⟨((Below.refl _ _).alloc (Nat.le_refl _) _).alloc (by simp) _, alloc_keeps (alloc_at rfl), alloc_at (by simp)⟩ ?_
    rintro w1 ⟨hb, k0, k1⟩
    refine call_then (fawake_any _) ?_
    intro w2 hw
    replace hb := below_next hb hb.size hw
    replace k0 := k0.up hw
    replace k1 := k1.up hw
    clear hw
    go_wp2
    go_ret
    exact ⟨rfl, hb⟩
  · by_cases h2 : 50 < xs.length
    · go_enter Try.func4, Try.ntmps4
      go_wp2_with fail
      refine name_calls (fun w1 => Below w.heap.size w w1 ∧ Holds w1 w.heap.size a ∧ Holds w1 (w.heap.size + 1) b)
        ⟨((Below.refl _ _).alloc (Nat.le_refl _) _).alloc (by simp) _, alloc_keeps (alloc_at rfl), alloc_at (by simp)⟩ ?_
      rintro w1 ⟨hb, k0, k1⟩
      refine call_then (fawake_any _) ?_
      intro w2 hw
      replace hb := below_next hb hb.size hw
      replace k0 := k0.up hw
      replace k1 := k1.up hw
      clear hw
      go_wp2
      go_ret
      exact ⟨rfl, hb⟩
    · go_enter Try.func4, Try.ntmps4
      go_wp2_with fail
      refine name_calls (fun w1 => Below w.heap.size w w1 ∧ Holds w1 w.heap.size a ∧ Holds w1 (w.heap.size + 1) b)
        ⟨((Below.refl _ _).alloc (Nat.le_refl _) _).alloc (by simp) _, alloc_keeps (alloc_at rfl), alloc_at (by simp)⟩ ?_
      rintro w1 ⟨hb, k0, k1⟩
      refine call_then (fawake_any _) ?_
      intro w2 hw
      replace hb := below_next hb hb.size hw
      replace k0 := k0.up hw
      replace k1 := k1.up hw
      clear hw
      go_wp2
      go_ret
      exact ⟨rfl, hb⟩
set_option maxRecDepth 100000 in
set_option maxHeartbeats 1000000 in
theorem fieldNone_one (a b : Int) (A B : Option Addr) (xs ys : List Int) (c d : Nat) (h1 : xs.length ≤ 50) (h2 : ys.length ≤ 50) (w : World) :
    Calls Try.prog 4 #[.int .u8 1, .agg #[.int .u64 (lo a), .int .u64 (hi a)], .agg #[.int .u64 (lo b), .int .u64 (hi b)], .slice A xs.length c, .slice B ys.length d] w fun e w' => e = .returned (.bool true) ∧ Below w.heap.size w w' := by
  go_enter Try.func4, Try.ntmps4
  go_wp2_with fail
  refine name_calls (fun w1 => Below w.heap.size w w1 ∧ Holds w1 w.heap.size a ∧ Holds w1 (w.heap.size + 1) b)
    ⟨((Below.refl _ _).alloc (Nat.le_refl _) _).alloc (by simp) _, alloc_keeps (alloc_at rfl), alloc_at (by simp)⟩ ?_
  rintro w1 ⟨hb, k0, k1⟩
  refine call_then (fawake_any _) ?_
  intro w2 hw
  replace hb := below_next hb hb.size hw
  replace k0 := k0.up hw
  replace k1 := k1.up hw
  clear hw
  go_wp2_with fail
  refine call_then (fvalid_one _) ?_
  intro w3 hw
  replace hb := below_next hb hb.size hw
  go_wp2
  go_ret
  exact ⟨rfl, hb⟩
set_option maxRecDepth 100000 in
set_option maxHeartbeats 1000000 in
theorem fieldNone_two (a b : Int) (A B : Option Addr) (xs ys : List Int) (c d : Nat) (h1 : xs.length ≤ 50) (h2 : ys.length ≤ 50) (w : World) :
    Calls Try.prog 4 #[.int .u8 2, .agg #[.int .u64 (lo a), .int .u64 (hi a)], .agg #[.int .u64 (lo b), .int .u64 (hi b)], .slice A xs.length c, .slice B ys.length d] w fun e w' => e = .returned (.bool true) ∧ Below w.heap.size w w' := by
  go_enter Try.func4, Try.ntmps4
  go_wp2_with fail
  refine name_calls (fun w1 => Below w.heap.size w w1 ∧ Holds w1 w.heap.size a ∧ Holds w1 (w.heap.size + 1) b)
    ⟨((Below.refl _ _).alloc (Nat.le_refl _) _).alloc (by simp) _, alloc_keeps (alloc_at rfl), alloc_at (by simp)⟩ ?_
  rintro w1 ⟨hb, k0, k1⟩
  refine call_then (fawake_any _) ?_
  intro w2 hw
  replace hb := below_next hb hb.size hw
  replace k0 := k0.up hw
  replace k1 := k1.up hw
  clear hw
  go_wp2_with fail
  refine call_then (fvalid_two _) ?_
  intro w3 hw
  replace hb := below_next hb hb.size hw
  go_wp2
  go_ret
  exact ⟨rfl, hb⟩
set_option maxRecDepth 100000 in
set_option maxHeartbeats 4000000 in
theorem fieldNone_none (n a b : Int) (hn : NoField n) (A B : Option Addr) (xs ys : List Int) (c d : Nat) (h1 : xs.length ≤ 50) (h2 : ys.length ≤ 50) (hx : ElemsOK xs) (w : World) (hA : ElemsAt w A xs) :
    Calls Try.prog 4 #[.int .u8 n, .agg #[.int .u64 (lo a), .int .u64 (hi a)], .agg #[.int .u64 (lo b), .int .u64 (hi b)], .slice A xs.length c, .slice B ys.length d] w fun e w' => e = .returned (.bool true) ∧ Below w.heap.size w w' := by
  have e1 := hn.one
  have e2 := hn.two
  go_enter Try.func4, Try.ntmps4
  go_wp2_with fail
  refine name_calls (fun w1 => Below w.heap.size w w1 ∧ Holds w1 w.heap.size a ∧ Holds w1 (w.heap.size + 1) b)
    ⟨((Below.refl _ _).alloc (Nat.le_refl _) _).alloc (by simp) _, alloc_keeps (alloc_at rfl), alloc_at (by simp)⟩ ?_
  rintro w1 ⟨hb, k0, k1⟩
  refine call_then (fawake_any _) ?_
  intro w2 hw
  replace hb := below_next hb hb.size hw
  replace k0 := k0.up hw
  replace k1 := k1.up hw
  clear hw
  have c0 := Lib.hid (fInv_none n a hn)
  have c1 := Lib.hid (fRoot_none n 1 hn)
  have c2 := Lib.hid (ftake_none n (.slice B ys.length d) hn)
  have c3 := Lib.hid (ftakevec_none n 1 (.slice B ys.length d) hn)
  have l0 := lt_of_get k0
  obtain ⟨p0, p1, p2, p3⟩ := blk2 k0
  go_wp2_with fail
  clear p0 p1 p2 p3 l0
  refine name_calls (fun w3 => Below w.heap.size w w3 ∧ Holds w3 w.heap.size a ∧ Holds w3 (w.heap.size + 1) b ∧ Holds w3 w2.heap.size 0) ⟨hb.alloc hb.size _, k0.alloc _, k1.alloc _, alloc_at rfl⟩ ?_
  clear hb k0 k1
  generalize w2.heap.size = z
  rintro w3 ⟨hb, k0, k1, kz⟩
  refine call_then (c0.out _) ?_
  intro w4 hw
  replace hb := below_next hb hb.size hw
  replace k0 := k0.up hw
  replace k1 := k1.up hw
  replace kz := kz.up hw
  clear hw
  go_wp2_with fail
  refine name_calls (fun w3 => Below w.heap.size w w3 ∧ Holds w3 w.heap.size a ∧ Holds w3 (w.heap.size + 1) b ∧ Holds w3 z 0) ⟨hb.alloc hb.size _, k0.alloc _, k1.alloc _, kz.alloc _⟩ ?_
  clear hb k0 k1 kz
  rintro w3 ⟨hb, k0, k1, kz⟩
  refine call_then (c1.out _) ?_
  intro w4 hw
  replace hb := below_next hb hb.size hw
  replace k0 := k0.up hw
  replace k1 := k1.up hw
  replace kz := kz.up hw
  clear hw
  go_wp2_with fail
  refine name_calls (fun w3 => Below w.heap.size w w3 ∧ Holds w3 w.heap.size a ∧ Holds w3 (w.heap.size + 1) b ∧ Holds w3 z 0) ⟨hb.alloc hb.size _, k0.alloc _, k1.alloc _, kz.alloc _⟩ ?_
  clear hb k0 k1 kz
  rintro w3 ⟨hb, k0, k1, kz⟩
  refine call_then (c2.out _) ?_
  intro w4 hw
  replace hb := below_next hb hb.size hw
  replace k0 := k0.up hw
  replace k1 := k1.up hw
  replace kz := kz.up hw
  clear hw
  go_wp2_with fail
  refine name_calls (fun w3 => Below w.heap.size w w3 ∧ Holds w3 w.heap.size a ∧ Holds w3 (w.heap.size + 1) b ∧ Holds w3 z 0) ⟨hb.alloc hb.size _, k0.alloc _, k1.alloc _, kz.alloc _⟩ ?_
  clear hb k0 k1 kz
  rintro w3 ⟨hb, k0, k1, kz⟩
  refine call_then (c3.out _) ?_
  intro w4 hw
  replace hb := below_next hb hb.size hw
  replace k0 := k0.up hw
  replace k1 := k1.up hw
  replace kz := kz.up hw
  clear hw
  clear c0 c1 c2 c3
  go_wp2
  simp only [List.append]
  refine seg_start 97 (by kernel_rfl) (by decide) ?_
  intro v0 hv
  refine seg_batch 77 [0, 1, 2, 3, 4, 5, 6, 7, 8, 9, 10, 11, 12, 13, 14, 15, 16, 17, 18, 19] (by as_aux_lemma => kernel_rfl) rfl (by kernel_rfl) (by as_aux_lemma => kernel_rfl) (by kernel_rfl) ?_
  apply Exists.intro
  refine ⟨fun ι _ φ hφ => ?_, ?_⟩
  · obtain ⟨p0, q0⟩ := Family.two (φ := φ) hφ (k0.up hv)
    obtain ⟨p1, q1⟩ := Family.two (φ := φ) hφ (k1.up hv)
    obtain ⟨p2, q2⟩ := Family.two (φ := φ) hφ (kz.up hv)
    rw [show lo 0 = 0 from rfl] at p2
    rw [show hi 0 = 0 from rfl] at q2
    have hAi := Lib.hid (fun i => hA.up (below_next hb hb.size (below_chain hv (hφ.old i))))
    repeat (refine pick_step rfl ?_; go_big_quiet_step ((first | (go_at_call 29; exact flow_call hφ (fvalid_none n hn _)) | (go_at_call 27; exact flow_call hφ (fsize_none n hn _)) | (go_at_call 33; exact flow_call hφ (froots_none n hn _)) | (go_at_call 25; exact flow_call hφ (fin_none n a hn _)) | (go_at_call 23; exact flow_call hφ (fOf_none n 7 hn _)) | (go_at_call 14; exact flow_call hφ (fAdd_none n a b hn _)) | (go_at_call 16; exact flow_call hφ (fSub_none n a b hn _)) | (go_at_call 20; exact flow_call hφ (fMul_none n a b hn _)) | (go_at_call 18; exact flow_call hφ (fNeg_none n a hn _)) | (go_at_call 21; exact flow_call hφ (fPow_none n a 3 hn _)) | (go_at_call 34; exact flow_call hφ (fsum_none n hn xs A c hx (by unfold maxLen; omega) _ (hAi.out _))) | (go_at_call 35; exact flow_call hφ (fbytes_none n a hn _)) | (go_at_call 36; exact flow_call hφ (fvec_none n _ hn _)))))
    exact pick_end
  as_aux_lemma =>
  intro v1 hv1
  replace hv := below_chain hv hv1
  clear hv1
  refine seg_batch 57 [20, 21, 22, 23, 24, 25, 26, 27, 28, 29, 30, 31, 32, 33, 34, 35, 36, 37, 38, 39] (by as_aux_lemma => kernel_rfl) rfl (by kernel_rfl) (by as_aux_lemma => kernel_rfl) (by kernel_rfl) ?_
  apply Exists.intro
  refine ⟨fun ι _ φ hφ => ?_, ?_⟩
  · obtain ⟨p0, q0⟩ := Family.two (φ := φ) hφ (k0.up hv)
    obtain ⟨p1, q1⟩ := Family.two (φ := φ) hφ (k1.up hv)
    obtain ⟨p2, q2⟩ := Family.two (φ := φ) hφ (kz.up hv)
    rw [show lo 0 = 0 from rfl] at p2
    rw [show hi 0 = 0 from rfl] at q2
    have hAi := Lib.hid (fun i => hA.up (below_next hb hb.size (below_chain hv (hφ.old i))))
    repeat (refine pick_step rfl ?_; go_big_quiet_step ((first | (go_at_call 29; exact flow_call hφ (fvalid_none n hn _)) | (go_at_call 27; exact flow_call hφ (fsize_none n hn _)) | (go_at_call 33; exact flow_call hφ (froots_none n hn _)) | (go_at_call 25; exact flow_call hφ (fin_none n a hn _)) | (go_at_call 23; exact flow_call hφ (fOf_none n 7 hn _)) | (go_at_call 14; exact flow_call hφ (fAdd_none n a b hn _)) | (go_at_call 16; exact flow_call hφ (fSub_none n a b hn _)) | (go_at_call 20; exact flow_call hφ (fMul_none n a b hn _)) | (go_at_call 18; exact flow_call hφ (fNeg_none n a hn _)) | (go_at_call 21; exact flow_call hφ (fPow_none n a 3 hn _)) | (go_at_call 34; exact flow_call hφ (fsum_none n hn xs A c hx (by unfold maxLen; omega) _ (hAi.out _))) | (go_at_call 35; exact flow_call hφ (fbytes_none n a hn _)) | (go_at_call 36; exact flow_call hφ (fvec_none n _ hn _)))))
    exact pick_end
  as_aux_lemma =>
  intro v1 hv1
  replace hv := below_chain hv hv1
  clear hv1
  refine seg_batch 37 [40, 41, 42, 43, 44, 45, 46, 47, 48, 49, 50, 51, 52, 53, 54, 55, 56, 57, 58, 59] (by as_aux_lemma => kernel_rfl) rfl (by kernel_rfl) (by as_aux_lemma => kernel_rfl) (by kernel_rfl) ?_
  apply Exists.intro
  refine ⟨fun ι _ φ hφ => ?_, ?_⟩
  · obtain ⟨p0, q0⟩ := Family.two (φ := φ) hφ (k0.up hv)
    obtain ⟨p1, q1⟩ := Family.two (φ := φ) hφ (k1.up hv)
    obtain ⟨p2, q2⟩ := Family.two (φ := φ) hφ (kz.up hv)
    rw [show lo 0 = 0 from rfl] at p2
    rw [show hi 0 = 0 from rfl] at q2
    have hAi := Lib.hid (fun i => hA.up (below_next hb hb.size (below_chain hv (hφ.old i))))
    repeat (refine pick_step rfl ?_; go_big_quiet_step ((first | (go_at_call 29; exact flow_call hφ (fvalid_none n hn _)) | (go_at_call 27; exact flow_call hφ (fsize_none n hn _)) | (go_at_call 33; exact flow_call hφ (froots_none n hn _)) | (go_at_call 25; exact flow_call hφ (fin_none n a hn _)) | (go_at_call 23; exact flow_call hφ (fOf_none n 7 hn _)) | (go_at_call 14; exact flow_call hφ (fAdd_none n a b hn _)) | (go_at_call 16; exact flow_call hφ (fSub_none n a b hn _)) | (go_at_call 20; exact flow_call hφ (fMul_none n a b hn _)) | (go_at_call 18; exact flow_call hφ (fNeg_none n a hn _)) | (go_at_call 21; exact flow_call hφ (fPow_none n a 3 hn _)) | (go_at_call 34; exact flow_call hφ (fsum_none n hn xs A c hx (by unfold maxLen; omega) _ (hAi.out _))) | (go_at_call 35; exact flow_call hφ (fbytes_none n a hn _)) | (go_at_call 36; exact flow_call hφ (fvec_none n _ hn _)))))
    exact pick_end
  as_aux_lemma =>
  intro v1 hv1
  replace hv := below_chain hv hv1
  clear hv1
  refine seg_batch 17 [60, 61, 62, 63, 64, 65, 66, 67, 68, 69, 70, 71, 72, 73, 74, 75, 76, 77, 78, 79] (by as_aux_lemma => kernel_rfl) rfl (by kernel_rfl) (by as_aux_lemma => kernel_rfl) (by kernel_rfl) ?_
  apply Exists.intro
  refine ⟨fun ι _ φ hφ => ?_, ?_⟩
  · obtain ⟨p0, q0⟩ := Family.two (φ := φ) hφ (k0.up hv)
    obtain ⟨p1, q1⟩ := Family.two (φ := φ) hφ (k1.up hv)
    obtain ⟨p2, q2⟩ := Family.two (φ := φ) hφ (kz.up hv)
    rw [show lo 0 = 0 from rfl] at p2
    rw [show hi 0 = 0 from rfl] at q2
    have hAi := Lib.hid (fun i => hA.up (below_next hb hb.size (below_chain hv (hφ.old i))))
    repeat (refine pick_step rfl ?_; go_big_quiet_step ((first | (go_at_call 29; exact flow_call hφ (fvalid_none n hn _)) | (go_at_call 27; exact flow_call hφ (fsize_none n hn _)) | (go_at_call 33; exact flow_call hφ (froots_none n hn _)) | (go_at_call 25; exact flow_call hφ (fin_none n a hn _)) | (go_at_call 23; exact flow_call hφ (fOf_none n 7 hn _)) | (go_at_call 14; exact flow_call hφ (fAdd_none n a b hn _)) | (go_at_call 16; exact flow_call hφ (fSub_none n a b hn _)) | (go_at_call 20; exact flow_call hφ (fMul_none n a b hn _)) | (go_at_call 18; exact flow_call hφ (fNeg_none n a hn _)) | (go_at_call 21; exact flow_call hφ (fPow_none n a 3 hn _)) | (go_at_call 34; exact flow_call hφ (fsum_none n hn xs A c hx (by unfold maxLen; omega) _ (hAi.out _))) | (go_at_call 35; exact flow_call hφ (fbytes_none n a hn _)) | (go_at_call 36; exact flow_call hφ (fvec_none n _ hn _)))))
    exact pick_end
  as_aux_lemma =>
  intro v1 hv1
  replace hv := below_chain hv hv1
  clear hv1
  refine seg_batch 0 [80, 81, 82, 83, 84, 85, 86, 87, 88, 89, 90, 91, 92, 93, 94, 95, 96] (by as_aux_lemma => kernel_rfl) rfl (by kernel_rfl) (by as_aux_lemma => kernel_rfl) (by kernel_rfl) ?_
  apply Exists.intro
  refine ⟨fun ι _ φ hφ => ?_, ?_⟩
  · obtain ⟨p0, q0⟩ := Family.two (φ := φ) hφ (k0.up hv)
    obtain ⟨p1, q1⟩ := Family.two (φ := φ) hφ (k1.up hv)
    obtain ⟨p2, q2⟩ := Family.two (φ := φ) hφ (kz.up hv)
    rw [show lo 0 = 0 from rfl] at p2
    rw [show hi 0 = 0 from rfl] at q2
    have hAi := Lib.hid (fun i => hA.up (below_next hb hb.size (below_chain hv (hφ.old i))))
    repeat (refine pick_step rfl ?_; go_big_quiet_step ((first | (go_at_call 29; exact flow_call hφ (fvalid_none n hn _)) | (go_at_call 27; exact flow_call hφ (fsize_none n hn _)) | (go_at_call 33; exact flow_call hφ (froots_none n hn _)) | (go_at_call 25; exact flow_call hφ (fin_none n a hn _)) | (go_at_call 23; exact flow_call hφ (fOf_none n 7 hn _)) | (go_at_call 14; exact flow_call hφ (fAdd_none n a b hn _)) | (go_at_call 16; exact flow_call hφ (fSub_none n a b hn _)) | (go_at_call 20; exact flow_call hφ (fMul_none n a b hn _)) | (go_at_call 18; exact flow_call hφ (fNeg_none n a hn _)) | (go_at_call 21; exact flow_call hφ (fPow_none n a 3 hn _)) | (go_at_call 34; exact flow_call hφ (fsum_none n hn xs A c hx (by unfold maxLen; omega) _ (hAi.out _))) | (go_at_call 35; exact flow_call hφ (fbytes_none n a hn _)) | (go_at_call 36; exact flow_call hφ (fvec_none n _ hn _)))))
    exact pick_end
  as_aux_lemma =>
  intro v1 hv1
  replace hv := below_chain hv hv1
  clear hv1
  refine seg_done rfl (by kernel_rfl) ?_
  intro v2 hv2
  replace hv := below_chain hv hv2
  go_wp2
  go_ret
  exact ⟨rfl, below_next hb hb.size hv⟩
end Go.Proofs.Ytokdbedineoklaa
