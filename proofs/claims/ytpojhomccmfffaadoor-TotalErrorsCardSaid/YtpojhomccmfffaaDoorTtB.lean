/-
  The law's task of small numbers.
-/
import Derived.Test.YtpojhomccmfffaaDoorTtA
namespace Go.Proofs.YtpojhomccmfffaaDoor
open Go.RowKit Flow F
set_option linter.unusedVariables false
set_option linter.unusedSimpArgs false

def tagB (t : Int) : ByteArray := if t = 0 then ⟨#[]⟩ else if t = 1 then ⟨#[116]⟩ else ⟨#[116, 97, 108, 108, 121]⟩
theorem tagB_le (t : Int) : (tagB t).size ≤ 32 := by
  unfold tagB
  split
  · decide
  · split <;> decide
def s10 (K F B L W C : Int) : List Value := [.int .u8 K, .int .u8 F, .int .u8 B, .int .u8 L, .int .u8 W, .int .u8 C]
def s13 (K F B L W C P T : Int) : List Value := [.int .u8 K, .int .u8 F, .int .u8 B, .int .u8 L, .int .u8 W, .int .u8 C, .int .u8 P, .int .u8 T]
def taskN : List Value := [.int .u8 0, .int .u8 0, .int .i64 0, .int .i64 0, .int .i64 0, .int .i64 0, .int .i64 0, .string { data := #[] }]
set_option maxRecDepth 20000 in
set_option maxHeartbeats 8000000 in
theorem task_any (K F B L W C P T : Int) (k0 : 0 ≤ K) (k1 : K ≤ 255) (f0 : 0 ≤ F) (f1 : F ≤ 255) (b0 : 0 ≤ B) (b1 : B ≤ 255) (l0 : 0 ≤ L) (l1 : L ≤ 255) (w0 : 0 ≤ W) (w1 : W ≤ 255) (c0 : 0 ≤ C) (c1 : C ≤ 255) (p0 : 0 ≤ P) (p1 : P ≤ 255) (t0 : 0 ≤ T) (t1 : T ≤ 255) (w : World) :
    Calls Tryd.prog 12 #[.agg (s13 K F B L W C P T).toArray] w fun e w' => e = .returned (tvl (smallC K F B L W C) (1 + P % 3) (tagB (T % 3))) ∧ Below w.heap.size w w' := by
  have hC := fun w => small_any K F B L W C k0 k1 f0 f1 b0 b1 l0 l1 w0 w1 c0 c1 w
  have h3 : T % 3 = 0 ∨ T % 3 = 1 ∨ T % 3 = 2 := by omega
  clear k0 k1 f0 f1 b0 b1 l0 l1 w0 w1 c0 c1
  generalize smallC K F B L W C = x at *
  unfold svl cvl at hC
  unfold tvl
  rcases h3 with h | h | h
  · rw [show tagB (T % 3) = (⟨#[]⟩ : ByteArray) by rw [h]; rfl]
    replace hC := Lib.hid hC
    go_enter Tryd.func12, Tryd.ntmps12
    go_upto_region 1 with (fail)
    refine name_wp (fun w1 => Below w.heap.size w w1 ∧ w1.heap[w.heap.size]? = some (.cells (s13 K F B L W C P T).toArray 25 (0, 0)) ∧ w1.heap[w.heap.size + 1]? = some (.cells taskN.toArray 33 (0, 0)))
      ⟨((Below.refl _ _).alloc (Nat.le_refl _) _).alloc (by simp) _, alloc_keeps (alloc_at rfl), alloc_at (by simp)⟩ ?_
    rintro w1 ⟨hb, k0, k1⟩
    obtain ⟨q, hq⟩ : ∃ q, w.heap.size = q := ⟨_, rfl⟩
    rw [hq] at k0 k1 hb ⊢
    replace hq := Lib.hid hq
    have hqw := hq.out
    refine segS_start (gb := fun _ => True) 15 (by kernel_rfl) (by decide) ?_
    intro v0 hv
    replace hb := below_next hb (by have := hb.size; omega) hv
    replace k0 := keeps hv k0
    replace k1 := keeps hv k1
    refine segS_batch 5 [0, 1, 3, 4, 5, 6, 7, 9, 10, 11] (by kernel_rfl) rfl (by kernel_rfl) (by kernel_rfl) (by kernel_rfl) ?_
    have k3 : v0.rangeAt q 0 (s10 K F B L W C) := sub_range (At0.of_block k0) 0 _ rfl
    apply Exists.intro
    refine ⟨fun ι _ φ hφ => ?_, fun v4 hv => ?_⟩
    · have d6 := fun i => mid_familyT hφ (At0.of_block k0) trivial _ ⟨i, rfl⟩ 6 _ rfl; have d7 := fun i => mid_familyT hφ (At0.of_block k0) trivial _ ⟨i, rfl⟩ 7 _ rfl; simp only [Nat.zero_add] at d6 d7
      repeat (refine pick_step rfl ?_; first
        | (refine quiet_load_mid _ _ _ 0 _ _ rfl rfl rfl (mid_familyT hφ k3 trivial) Tryd.underlying23 rfl (by kernel_rfl) ?_; simp only [Act.put, List.setIfInBounds_toArray, List.set_cons_succ, List.set_cons_zero])
        | go_big_quiet_step (fail))
      exact pick_end
    replace hb := below_next hb (by have := hb.size; omega) hv
    replace k0 := keeps hv k0
    replace k1 := keeps hv k1
    refine segS_more [2, 8] (by kernel_rfl) (by decide) ?_
    intro j hj
    simp only [List.mem_cons, List.not_mem_nil, or_false] at hj
    rcases hj with rfl | rfl
    · refine ⟨by decide, _, rfl, ?_⟩
      intro v2 K2 hv hK
      replace hb := below_next hb (by have := hb.size; omega) hv
      replace k0 := keeps hv k0
      replace k1 := keeps hv k1
      replace hK := Lib.hid hK
      go_simp
      refine (hC.out _).mono ?_
      rintro e v3 ⟨rfl, hv⟩
      refine hK.out _ _ (HeldS.of_below hv) ?_
      clear hK K2
      replace hb := below_next hb (by have := hb.size; omega) hv
      replace k0 := keeps hv k0
      replace k1 := keeps hv k1
      refine segS_one 8 _ (by decide) rfl (by kernel_rfl) ?_
      intro v5 K2 hv hK
      replace hb := below_next hb (by have := hb.size; omega) hv
      replace k0 := keeps hv k0
      replace k1 := keeps hv k1
      replace hK := Lib.hid hK
      go_simp
      have hv := (Below.refl v5.heap.size v5).alloc (Nat.le_refl _) (.cells #[.string { data := #[] }, .string { data := #[116] }, .string { data := #[116, 97, 108, 108, 121] }] 9 (0, 0))
      refine hK.out _ _ (HeldS.of_below hv) ?_
      clear hK K2
      have kt := alloc_at (w := v5) (k := v5.heap.size) (o := .cells #[.string { data := #[] }, .string { data := #[116] }, .string { data := #[116, 97, 108, 108, 121] }] 9 (0, 0)) rfl
      replace hb := below_next hb (by have := hb.size; omega) hv
      replace k0 := keeps hv k0
      replace k1 := keeps hv k1
      clear hv
      generalize v5.alloc (.cells #[.string { data := #[] }, .string { data := #[116] }, .string { data := #[116, 97, 108, 108, 121] }] 9 (0, 0)) = v6 at *
      generalize v5.heap.size = qt at *
      refine segS_batch 0 [12, 13, 14] (by kernel_rfl) rfl (by kernel_rfl) (by kernel_rfl) (by kernel_rfl) ?_
      have k3 := trivial
      apply Exists.intro
      refine ⟨fun ι _ φ hφ => ?_, fun v4 hv => ?_⟩
      · have d0 := fun i => mid_familyT hφ (At0.of_block (cs := [.string { data := #[] }, .string { data := #[116] }, .string { data := #[116, 97, 108, 108, 121] }]) kt) trivial _ ⟨i, rfl⟩ 0 _ rfl; simp only [Nat.zero_add] at d0
        repeat (refine pick_step rfl ?_; first
          | (refine quiet_load_mid _ _ _ 0 _ _ rfl rfl rfl (mid_familyT hφ k3 trivial) Tryd.underlying23 rfl (by kernel_rfl) ?_; simp only [Act.put, List.setIfInBounds_toArray, List.set_cons_succ, List.set_cons_zero])
          | go_big_quiet_step (fail))
        exact pick_end
      replace hb := below_next hb (by have := hb.size; omega) hv
      replace k0 := keeps hv k0
      replace k1 := keeps hv k1
      refine segS_tail (by kernel_rfl) ?_
      intro v9 hv
      replace hb := below_next hb (by have := hb.size; omega) hv
      replace k0 := keeps hv k0
      replace k1 := keeps hv k1
      clear hv
      simp only [List.drop_succ_cons, List.drop_zero]
      have hl1 := lt_of_get k1
      have hone := Lib.hid (one_tcl x (1 + P % 3) (⟨#[]⟩ : ByteArray))
      go_wp2_with (first | (refine list_store_whole _ _ _ _ (tcl x (1 + P % 3) (⟨#[]⟩ : ByteArray)) taskN 33 rfl rfl rfl rfl k1 rfl (by kernel_rfl) hone.out ?_; intro w7 hbut kr))
      refine calm_normal ?_
      go_wp2
      have hbe := hbut.below hb (by omega) (by omega)
      rw [← hq] at hbe
      have hld := loadVar_whole (ty := 33) (cs := tcl x (1 + P % 3) (⟨#[]⟩ : ByteArray)) _ (At0.of_block kr) Tryd.underlying33 rfl (by kernel_rfl)
      refine bodyPost_ret (v := .agg (tcl x (1 + P % 3) (⟨#[]⟩ : ByteArray)).toArray) (results_cellT Tryd.results12 rfl hld) rfl ⟨rfl, hbe⟩
    · refine ⟨by decide, _, rfl, ?_⟩
      intro v5 K2 hv hK
      replace hb := below_next hb (by have := hb.size; omega) hv
      replace k0 := keeps hv k0
      replace k1 := keeps hv k1
      replace hK := Lib.hid hK
      go_simp
      have hv := (Below.refl v5.heap.size v5).alloc (Nat.le_refl _) (.cells #[.string { data := #[] }, .string { data := #[116] }, .string { data := #[116, 97, 108, 108, 121] }] 9 (0, 0))
      refine hK.out _ _ (HeldS.of_below hv) ?_
      clear hK K2
      have kt := alloc_at (w := v5) (k := v5.heap.size) (o := .cells #[.string { data := #[] }, .string { data := #[116] }, .string { data := #[116, 97, 108, 108, 121] }] 9 (0, 0)) rfl
      replace hb := below_next hb (by have := hb.size; omega) hv
      replace k0 := keeps hv k0
      replace k1 := keeps hv k1
      clear hv
      generalize v5.alloc (.cells #[.string { data := #[] }, .string { data := #[116] }, .string { data := #[116, 97, 108, 108, 121] }] 9 (0, 0)) = v6 at *
      generalize v5.heap.size = qt at *
      refine segS_batch 2 [12, 13] (by kernel_rfl) rfl (by kernel_rfl) (by kernel_rfl) (by kernel_rfl) ?_
      have k3 := trivial
      apply Exists.intro
      refine ⟨fun ι _ φ hφ => ?_, fun v4 hv => ?_⟩
      · have d0 := fun i => mid_familyT hφ (At0.of_block (cs := [.string { data := #[] }, .string { data := #[116] }, .string { data := #[116, 97, 108, 108, 121] }]) kt) trivial _ ⟨i, rfl⟩ 0 _ rfl; simp only [Nat.zero_add] at d0
        repeat (refine pick_step rfl ?_; first
          | (refine quiet_load_mid _ _ _ 0 _ _ rfl rfl rfl (mid_familyT hφ k3 trivial) Tryd.underlying23 rfl (by kernel_rfl) ?_; simp only [Act.put, List.setIfInBounds_toArray, List.set_cons_succ, List.set_cons_zero])
          | go_big_quiet_step (fail))
        exact pick_end
      replace hb := below_next hb (by have := hb.size; omega) hv
      replace k0 := keeps hv k0
      replace k1 := keeps hv k1
      clear kt
      refine segS_one 2 _ (by decide) rfl (by kernel_rfl) ?_
      intro v2 K2 hv hK
      replace hb := below_next hb (by have := hb.size; omega) hv
      replace k0 := keeps hv k0
      replace k1 := keeps hv k1
      replace hK := Lib.hid hK
      go_simp
      refine (hC.out _).mono ?_
      rintro e v3 ⟨rfl, hv⟩
      refine hK.out _ _ (HeldS.of_below hv) ?_
      clear hK K2
      replace hb := below_next hb (by have := hb.size; omega) hv
      replace k0 := keeps hv k0
      replace k1 := keeps hv k1
      refine segS_batch 0 [14] (by kernel_rfl) rfl (by kernel_rfl) (by kernel_rfl) (by kernel_rfl) ?_
      have k3 := trivial
      apply Exists.intro
      refine ⟨fun ι _ φ hφ => ?_, fun v4 hv => ?_⟩
      · skip
        repeat (refine pick_step rfl ?_; first
          | (refine quiet_load_mid _ _ _ 0 _ _ rfl rfl rfl (mid_familyT hφ k3 trivial) Tryd.underlying23 rfl (by kernel_rfl) ?_; simp only [Act.put, List.setIfInBounds_toArray, List.set_cons_succ, List.set_cons_zero])
          | go_big_quiet_step (fail))
        exact pick_end
      replace hb := below_next hb (by have := hb.size; omega) hv
      replace k0 := keeps hv k0
      replace k1 := keeps hv k1
      refine segS_tail (by kernel_rfl) ?_
      intro v9 hv
      replace hb := below_next hb (by have := hb.size; omega) hv
      replace k0 := keeps hv k0
      replace k1 := keeps hv k1
      clear hv
      simp only [List.drop_succ_cons, List.drop_zero]
      have hl1 := lt_of_get k1
      have hone := Lib.hid (one_tcl x (1 + P % 3) (⟨#[]⟩ : ByteArray))
      go_wp2_with (first | (refine list_store_whole _ _ _ _ (tcl x (1 + P % 3) (⟨#[]⟩ : ByteArray)) taskN 33 rfl rfl rfl rfl k1 rfl (by kernel_rfl) hone.out ?_; intro w7 hbut kr))
      refine calm_normal ?_
      go_wp2
      have hbe := hbut.below hb (by omega) (by omega)
      rw [← hq] at hbe
      have hld := loadVar_whole (ty := 33) (cs := tcl x (1 + P % 3) (⟨#[]⟩ : ByteArray)) _ (At0.of_block kr) Tryd.underlying33 rfl (by kernel_rfl)
      refine bodyPost_ret (v := .agg (tcl x (1 + P % 3) (⟨#[]⟩ : ByteArray)).toArray) (results_cellT Tryd.results12 rfl hld) rfl ⟨rfl, hbe⟩
  · rw [show tagB (T % 3) = (⟨#[116]⟩ : ByteArray) by rw [h]; rfl]
    replace hC := Lib.hid hC
    go_enter Tryd.func12, Tryd.ntmps12
    go_upto_region 1 with (fail)
    refine name_wp (fun w1 => Below w.heap.size w w1 ∧ w1.heap[w.heap.size]? = some (.cells (s13 K F B L W C P T).toArray 25 (0, 0)) ∧ w1.heap[w.heap.size + 1]? = some (.cells taskN.toArray 33 (0, 0)))
      ⟨((Below.refl _ _).alloc (Nat.le_refl _) _).alloc (by simp) _, alloc_keeps (alloc_at rfl), alloc_at (by simp)⟩ ?_
    rintro w1 ⟨hb, k0, k1⟩
    obtain ⟨q, hq⟩ : ∃ q, w.heap.size = q := ⟨_, rfl⟩
    rw [hq] at k0 k1 hb ⊢
    replace hq := Lib.hid hq
    have hqw := hq.out
    refine segS_start (gb := fun _ => True) 15 (by kernel_rfl) (by decide) ?_
    intro v0 hv
    replace hb := below_next hb (by have := hb.size; omega) hv
    replace k0 := keeps hv k0
    replace k1 := keeps hv k1
    refine segS_batch 5 [0, 1, 3, 4, 5, 6, 7, 9, 10, 11] (by kernel_rfl) rfl (by kernel_rfl) (by kernel_rfl) (by kernel_rfl) ?_
    have k3 : v0.rangeAt q 0 (s10 K F B L W C) := sub_range (At0.of_block k0) 0 _ rfl
    apply Exists.intro
    refine ⟨fun ι _ φ hφ => ?_, fun v4 hv => ?_⟩
    · have d6 := fun i => mid_familyT hφ (At0.of_block k0) trivial _ ⟨i, rfl⟩ 6 _ rfl; have d7 := fun i => mid_familyT hφ (At0.of_block k0) trivial _ ⟨i, rfl⟩ 7 _ rfl; simp only [Nat.zero_add] at d6 d7
      repeat (refine pick_step rfl ?_; first
        | (refine quiet_load_mid _ _ _ 0 _ _ rfl rfl rfl (mid_familyT hφ k3 trivial) Tryd.underlying23 rfl (by kernel_rfl) ?_; simp only [Act.put, List.setIfInBounds_toArray, List.set_cons_succ, List.set_cons_zero])
        | go_big_quiet_step (fail))
      exact pick_end
    replace hb := below_next hb (by have := hb.size; omega) hv
    replace k0 := keeps hv k0
    replace k1 := keeps hv k1
    refine segS_more [2, 8] (by kernel_rfl) (by decide) ?_
    intro j hj
    simp only [List.mem_cons, List.not_mem_nil, or_false] at hj
    rcases hj with rfl | rfl
    · refine ⟨by decide, _, rfl, ?_⟩
      intro v2 K2 hv hK
      replace hb := below_next hb (by have := hb.size; omega) hv
      replace k0 := keeps hv k0
      replace k1 := keeps hv k1
      replace hK := Lib.hid hK
      go_simp
      refine (hC.out _).mono ?_
      rintro e v3 ⟨rfl, hv⟩
      refine hK.out _ _ (HeldS.of_below hv) ?_
      clear hK K2
      replace hb := below_next hb (by have := hb.size; omega) hv
      replace k0 := keeps hv k0
      replace k1 := keeps hv k1
      refine segS_one 8 _ (by decide) rfl (by kernel_rfl) ?_
      intro v5 K2 hv hK
      replace hb := below_next hb (by have := hb.size; omega) hv
      replace k0 := keeps hv k0
      replace k1 := keeps hv k1
      replace hK := Lib.hid hK
      go_simp
      have hv := (Below.refl v5.heap.size v5).alloc (Nat.le_refl _) (.cells #[.string { data := #[] }, .string { data := #[116] }, .string { data := #[116, 97, 108, 108, 121] }] 9 (0, 0))
      refine hK.out _ _ (HeldS.of_below hv) ?_
      clear hK K2
      have kt := alloc_at (w := v5) (k := v5.heap.size) (o := .cells #[.string { data := #[] }, .string { data := #[116] }, .string { data := #[116, 97, 108, 108, 121] }] 9 (0, 0)) rfl
      replace hb := below_next hb (by have := hb.size; omega) hv
      replace k0 := keeps hv k0
      replace k1 := keeps hv k1
      clear hv
      generalize v5.alloc (.cells #[.string { data := #[] }, .string { data := #[116] }, .string { data := #[116, 97, 108, 108, 121] }] 9 (0, 0)) = v6 at *
      generalize v5.heap.size = qt at *
      refine segS_batch 0 [12, 13, 14] (by kernel_rfl) rfl (by kernel_rfl) (by kernel_rfl) (by kernel_rfl) ?_
      have k3 := trivial
      apply Exists.intro
      refine ⟨fun ι _ φ hφ => ?_, fun v4 hv => ?_⟩
      · have d0 := fun i => mid_familyT hφ (At0.of_block (cs := [.string { data := #[] }, .string { data := #[116] }, .string { data := #[116, 97, 108, 108, 121] }]) kt) trivial _ ⟨i, rfl⟩ 1 _ rfl; simp only [Nat.zero_add] at d0
        repeat (refine pick_step rfl ?_; first
          | (refine quiet_load_mid _ _ _ 0 _ _ rfl rfl rfl (mid_familyT hφ k3 trivial) Tryd.underlying23 rfl (by kernel_rfl) ?_; simp only [Act.put, List.setIfInBounds_toArray, List.set_cons_succ, List.set_cons_zero])
          | go_big_quiet_step (fail))
        exact pick_end
      replace hb := below_next hb (by have := hb.size; omega) hv
      replace k0 := keeps hv k0
      replace k1 := keeps hv k1
      refine segS_tail (by kernel_rfl) ?_
      intro v9 hv
      replace hb := below_next hb (by have := hb.size; omega) hv
      replace k0 := keeps hv k0
      replace k1 := keeps hv k1
      clear hv
      simp only [List.drop_succ_cons, List.drop_zero]
      have hl1 := lt_of_get k1
      have hone := Lib.hid (one_tcl x (1 + P % 3) (⟨#[116]⟩ : ByteArray))
      go_wp2_with (first | (refine list_store_whole _ _ _ _ (tcl x (1 + P % 3) (⟨#[116]⟩ : ByteArray)) taskN 33 rfl rfl rfl rfl k1 rfl (by kernel_rfl) hone.out ?_; intro w7 hbut kr))
      refine calm_normal ?_
      go_wp2
      have hbe := hbut.below hb (by omega) (by omega)
      rw [← hq] at hbe
      have hld := loadVar_whole (ty := 33) (cs := tcl x (1 + P % 3) (⟨#[116]⟩ : ByteArray)) _ (At0.of_block kr) Tryd.underlying33 rfl (by kernel_rfl)
      refine bodyPost_ret (v := .agg (tcl x (1 + P % 3) (⟨#[116]⟩ : ByteArray)).toArray) (results_cellT Tryd.results12 rfl hld) rfl ⟨rfl, hbe⟩
    · refine ⟨by decide, _, rfl, ?_⟩
      intro v5 K2 hv hK
      replace hb := below_next hb (by have := hb.size; omega) hv
      replace k0 := keeps hv k0
      replace k1 := keeps hv k1
      replace hK := Lib.hid hK
      go_simp
      have hv := (Below.refl v5.heap.size v5).alloc (Nat.le_refl _) (.cells #[.string { data := #[] }, .string { data := #[116] }, .string { data := #[116, 97, 108, 108, 121] }] 9 (0, 0))
      refine hK.out _ _ (HeldS.of_below hv) ?_
      clear hK K2
      have kt := alloc_at (w := v5) (k := v5.heap.size) (o := .cells #[.string { data := #[] }, .string { data := #[116] }, .string { data := #[116, 97, 108, 108, 121] }] 9 (0, 0)) rfl
      replace hb := below_next hb (by have := hb.size; omega) hv
      replace k0 := keeps hv k0
      replace k1 := keeps hv k1
      clear hv
      generalize v5.alloc (.cells #[.string { data := #[] }, .string { data := #[116] }, .string { data := #[116, 97, 108, 108, 121] }] 9 (0, 0)) = v6 at *
      generalize v5.heap.size = qt at *
      refine segS_batch 2 [12, 13] (by kernel_rfl) rfl (by kernel_rfl) (by kernel_rfl) (by kernel_rfl) ?_
      have k3 := trivial
      apply Exists.intro
      refine ⟨fun ι _ φ hφ => ?_, fun v4 hv => ?_⟩
      · have d0 := fun i => mid_familyT hφ (At0.of_block (cs := [.string { data := #[] }, .string { data := #[116] }, .string { data := #[116, 97, 108, 108, 121] }]) kt) trivial _ ⟨i, rfl⟩ 1 _ rfl; simp only [Nat.zero_add] at d0
        repeat (refine pick_step rfl ?_; first
          | (refine quiet_load_mid _ _ _ 0 _ _ rfl rfl rfl (mid_familyT hφ k3 trivial) Tryd.underlying23 rfl (by kernel_rfl) ?_; simp only [Act.put, List.setIfInBounds_toArray, List.set_cons_succ, List.set_cons_zero])
          | go_big_quiet_step (fail))
        exact pick_end
      replace hb := below_next hb (by have := hb.size; omega) hv
      replace k0 := keeps hv k0
      replace k1 := keeps hv k1
      clear kt
      refine segS_one 2 _ (by decide) rfl (by kernel_rfl) ?_
      intro v2 K2 hv hK
      replace hb := below_next hb (by have := hb.size; omega) hv
      replace k0 := keeps hv k0
      replace k1 := keeps hv k1
      replace hK := Lib.hid hK
      go_simp
      refine (hC.out _).mono ?_
      rintro e v3 ⟨rfl, hv⟩
      refine hK.out _ _ (HeldS.of_below hv) ?_
      clear hK K2
      replace hb := below_next hb (by have := hb.size; omega) hv
      replace k0 := keeps hv k0
      replace k1 := keeps hv k1
      refine segS_batch 0 [14] (by kernel_rfl) rfl (by kernel_rfl) (by kernel_rfl) (by kernel_rfl) ?_
      have k3 := trivial
      apply Exists.intro
      refine ⟨fun ι _ φ hφ => ?_, fun v4 hv => ?_⟩
      · skip
        repeat (refine pick_step rfl ?_; first
          | (refine quiet_load_mid _ _ _ 0 _ _ rfl rfl rfl (mid_familyT hφ k3 trivial) Tryd.underlying23 rfl (by kernel_rfl) ?_; simp only [Act.put, List.setIfInBounds_toArray, List.set_cons_succ, List.set_cons_zero])
          | go_big_quiet_step (fail))
        exact pick_end
      replace hb := below_next hb (by have := hb.size; omega) hv
      replace k0 := keeps hv k0
      replace k1 := keeps hv k1
      refine segS_tail (by kernel_rfl) ?_
      intro v9 hv
      replace hb := below_next hb (by have := hb.size; omega) hv
      replace k0 := keeps hv k0
      replace k1 := keeps hv k1
      clear hv
      simp only [List.drop_succ_cons, List.drop_zero]
      have hl1 := lt_of_get k1
      have hone := Lib.hid (one_tcl x (1 + P % 3) (⟨#[116]⟩ : ByteArray))
      go_wp2_with (first | (refine list_store_whole _ _ _ _ (tcl x (1 + P % 3) (⟨#[116]⟩ : ByteArray)) taskN 33 rfl rfl rfl rfl k1 rfl (by kernel_rfl) hone.out ?_; intro w7 hbut kr))
      refine calm_normal ?_
      go_wp2
      have hbe := hbut.below hb (by omega) (by omega)
      rw [← hq] at hbe
      have hld := loadVar_whole (ty := 33) (cs := tcl x (1 + P % 3) (⟨#[116]⟩ : ByteArray)) _ (At0.of_block kr) Tryd.underlying33 rfl (by kernel_rfl)
      refine bodyPost_ret (v := .agg (tcl x (1 + P % 3) (⟨#[116]⟩ : ByteArray)).toArray) (results_cellT Tryd.results12 rfl hld) rfl ⟨rfl, hbe⟩
  · rw [show tagB (T % 3) = (⟨#[116, 97, 108, 108, 121]⟩ : ByteArray) by rw [h]; rfl]
    replace hC := Lib.hid hC
    go_enter Tryd.func12, Tryd.ntmps12
    go_upto_region 1 with (fail)
    refine name_wp (fun w1 => Below w.heap.size w w1 ∧ w1.heap[w.heap.size]? = some (.cells (s13 K F B L W C P T).toArray 25 (0, 0)) ∧ w1.heap[w.heap.size + 1]? = some (.cells taskN.toArray 33 (0, 0)))
      ⟨((Below.refl _ _).alloc (Nat.le_refl _) _).alloc (by simp) _, alloc_keeps (alloc_at rfl), alloc_at (by simp)⟩ ?_
    rintro w1 ⟨hb, k0, k1⟩
    obtain ⟨q, hq⟩ : ∃ q, w.heap.size = q := ⟨_, rfl⟩
    rw [hq] at k0 k1 hb ⊢
    replace hq := Lib.hid hq
    have hqw := hq.out
    refine segS_start (gb := fun _ => True) 15 (by kernel_rfl) (by decide) ?_
    intro v0 hv
    replace hb := below_next hb (by have := hb.size; omega) hv
    replace k0 := keeps hv k0
    replace k1 := keeps hv k1
    refine segS_batch 5 [0, 1, 3, 4, 5, 6, 7, 9, 10, 11] (by kernel_rfl) rfl (by kernel_rfl) (by kernel_rfl) (by kernel_rfl) ?_
    have k3 : v0.rangeAt q 0 (s10 K F B L W C) := sub_range (At0.of_block k0) 0 _ rfl
    apply Exists.intro
    refine ⟨fun ι _ φ hφ => ?_, fun v4 hv => ?_⟩
    · have d6 := fun i => mid_familyT hφ (At0.of_block k0) trivial _ ⟨i, rfl⟩ 6 _ rfl; have d7 := fun i => mid_familyT hφ (At0.of_block k0) trivial _ ⟨i, rfl⟩ 7 _ rfl; simp only [Nat.zero_add] at d6 d7
      repeat (refine pick_step rfl ?_; first
        | (refine quiet_load_mid _ _ _ 0 _ _ rfl rfl rfl (mid_familyT hφ k3 trivial) Tryd.underlying23 rfl (by kernel_rfl) ?_; simp only [Act.put, List.setIfInBounds_toArray, List.set_cons_succ, List.set_cons_zero])
        | go_big_quiet_step (fail))
      exact pick_end
    replace hb := below_next hb (by have := hb.size; omega) hv
    replace k0 := keeps hv k0
    replace k1 := keeps hv k1
    refine segS_more [2, 8] (by kernel_rfl) (by decide) ?_
    intro j hj
    simp only [List.mem_cons, List.not_mem_nil, or_false] at hj
    rcases hj with rfl | rfl
    · refine ⟨by decide, _, rfl, ?_⟩
      intro v2 K2 hv hK
      replace hb := below_next hb (by have := hb.size; omega) hv
      replace k0 := keeps hv k0
      replace k1 := keeps hv k1
      replace hK := Lib.hid hK
      go_simp
      refine (hC.out _).mono ?_
      rintro e v3 ⟨rfl, hv⟩
      refine hK.out _ _ (HeldS.of_below hv) ?_
      clear hK K2
      replace hb := below_next hb (by have := hb.size; omega) hv
      replace k0 := keeps hv k0
      replace k1 := keeps hv k1
      refine segS_one 8 _ (by decide) rfl (by kernel_rfl) ?_
      intro v5 K2 hv hK
      replace hb := below_next hb (by have := hb.size; omega) hv
      replace k0 := keeps hv k0
      replace k1 := keeps hv k1
      replace hK := Lib.hid hK
      go_simp
      have hv := (Below.refl v5.heap.size v5).alloc (Nat.le_refl _) (.cells #[.string { data := #[] }, .string { data := #[116] }, .string { data := #[116, 97, 108, 108, 121] }] 9 (0, 0))
      refine hK.out _ _ (HeldS.of_below hv) ?_
      clear hK K2
      have kt := alloc_at (w := v5) (k := v5.heap.size) (o := .cells #[.string { data := #[] }, .string { data := #[116] }, .string { data := #[116, 97, 108, 108, 121] }] 9 (0, 0)) rfl
      replace hb := below_next hb (by have := hb.size; omega) hv
      replace k0 := keeps hv k0
      replace k1 := keeps hv k1
      clear hv
      generalize v5.alloc (.cells #[.string { data := #[] }, .string { data := #[116] }, .string { data := #[116, 97, 108, 108, 121] }] 9 (0, 0)) = v6 at *
      generalize v5.heap.size = qt at *
      refine segS_batch 0 [12, 13, 14] (by kernel_rfl) rfl (by kernel_rfl) (by kernel_rfl) (by kernel_rfl) ?_
      have k3 := trivial
      apply Exists.intro
      refine ⟨fun ι _ φ hφ => ?_, fun v4 hv => ?_⟩
      · have d0 := fun i => mid_familyT hφ (At0.of_block (cs := [.string { data := #[] }, .string { data := #[116] }, .string { data := #[116, 97, 108, 108, 121] }]) kt) trivial _ ⟨i, rfl⟩ 2 _ rfl; simp only [Nat.zero_add] at d0
        repeat (refine pick_step rfl ?_; first
          | (refine quiet_load_mid _ _ _ 0 _ _ rfl rfl rfl (mid_familyT hφ k3 trivial) Tryd.underlying23 rfl (by kernel_rfl) ?_; simp only [Act.put, List.setIfInBounds_toArray, List.set_cons_succ, List.set_cons_zero])
          | go_big_quiet_step (fail))
        exact pick_end
      replace hb := below_next hb (by have := hb.size; omega) hv
      replace k0 := keeps hv k0
      replace k1 := keeps hv k1
      refine segS_tail (by kernel_rfl) ?_
      intro v9 hv
      replace hb := below_next hb (by have := hb.size; omega) hv
      replace k0 := keeps hv k0
      replace k1 := keeps hv k1
      clear hv
      simp only [List.drop_succ_cons, List.drop_zero]
      have hl1 := lt_of_get k1
      have hone := Lib.hid (one_tcl x (1 + P % 3) (⟨#[116, 97, 108, 108, 121]⟩ : ByteArray))
      go_wp2_with (first | (refine list_store_whole _ _ _ _ (tcl x (1 + P % 3) (⟨#[116, 97, 108, 108, 121]⟩ : ByteArray)) taskN 33 rfl rfl rfl rfl k1 rfl (by kernel_rfl) hone.out ?_; intro w7 hbut kr))
      refine calm_normal ?_
      go_wp2
      have hbe := hbut.below hb (by omega) (by omega)
      rw [← hq] at hbe
      have hld := loadVar_whole (ty := 33) (cs := tcl x (1 + P % 3) (⟨#[116, 97, 108, 108, 121]⟩ : ByteArray)) _ (At0.of_block kr) Tryd.underlying33 rfl (by kernel_rfl)
      refine bodyPost_ret (v := .agg (tcl x (1 + P % 3) (⟨#[116, 97, 108, 108, 121]⟩ : ByteArray)).toArray) (results_cellT Tryd.results12 rfl hld) rfl ⟨rfl, hbe⟩
    · refine ⟨by decide, _, rfl, ?_⟩
      intro v5 K2 hv hK
      replace hb := below_next hb (by have := hb.size; omega) hv
      replace k0 := keeps hv k0
      replace k1 := keeps hv k1
      replace hK := Lib.hid hK
      go_simp
      have hv := (Below.refl v5.heap.size v5).alloc (Nat.le_refl _) (.cells #[.string { data := #[] }, .string { data := #[116] }, .string { data := #[116, 97, 108, 108, 121] }] 9 (0, 0))
      refine hK.out _ _ (HeldS.of_below hv) ?_
      clear hK K2
      have kt := alloc_at (w := v5) (k := v5.heap.size) (o := .cells #[.string { data := #[] }, .string { data := #[116] }, .string { data := #[116, 97, 108, 108, 121] }] 9 (0, 0)) rfl
      replace hb := below_next hb (by have := hb.size; omega) hv
      replace k0 := keeps hv k0
      replace k1 := keeps hv k1
      clear hv
      generalize v5.alloc (.cells #[.string { data := #[] }, .string { data := #[116] }, .string { data := #[116, 97, 108, 108, 121] }] 9 (0, 0)) = v6 at *
      generalize v5.heap.size = qt at *
      refine segS_batch 2 [12, 13] (by kernel_rfl) rfl (by kernel_rfl) (by kernel_rfl) (by kernel_rfl) ?_
      have k3 := trivial
      apply Exists.intro
      refine ⟨fun ι _ φ hφ => ?_, fun v4 hv => ?_⟩
      · have d0 := fun i => mid_familyT hφ (At0.of_block (cs := [.string { data := #[] }, .string { data := #[116] }, .string { data := #[116, 97, 108, 108, 121] }]) kt) trivial _ ⟨i, rfl⟩ 2 _ rfl; simp only [Nat.zero_add] at d0
        repeat (refine pick_step rfl ?_; first
          | (refine quiet_load_mid _ _ _ 0 _ _ rfl rfl rfl (mid_familyT hφ k3 trivial) Tryd.underlying23 rfl (by kernel_rfl) ?_; simp only [Act.put, List.setIfInBounds_toArray, List.set_cons_succ, List.set_cons_zero])
          | go_big_quiet_step (fail))
        exact pick_end
      replace hb := below_next hb (by have := hb.size; omega) hv
      replace k0 := keeps hv k0
      replace k1 := keeps hv k1
      clear kt
      refine segS_one 2 _ (by decide) rfl (by kernel_rfl) ?_
      intro v2 K2 hv hK
      replace hb := below_next hb (by have := hb.size; omega) hv
      replace k0 := keeps hv k0
      replace k1 := keeps hv k1
      replace hK := Lib.hid hK
      go_simp
      refine (hC.out _).mono ?_
      rintro e v3 ⟨rfl, hv⟩
      refine hK.out _ _ (HeldS.of_below hv) ?_
      clear hK K2
      replace hb := below_next hb (by have := hb.size; omega) hv
      replace k0 := keeps hv k0
      replace k1 := keeps hv k1
      refine segS_batch 0 [14] (by kernel_rfl) rfl (by kernel_rfl) (by kernel_rfl) (by kernel_rfl) ?_
      have k3 := trivial
      apply Exists.intro
      refine ⟨fun ι _ φ hφ => ?_, fun v4 hv => ?_⟩
      · skip
        repeat (refine pick_step rfl ?_; first
          | (refine quiet_load_mid _ _ _ 0 _ _ rfl rfl rfl (mid_familyT hφ k3 trivial) Tryd.underlying23 rfl (by kernel_rfl) ?_; simp only [Act.put, List.setIfInBounds_toArray, List.set_cons_succ, List.set_cons_zero])
          | go_big_quiet_step (fail))
        exact pick_end
      replace hb := below_next hb (by have := hb.size; omega) hv
      replace k0 := keeps hv k0
      replace k1 := keeps hv k1
      refine segS_tail (by kernel_rfl) ?_
      intro v9 hv
      replace hb := below_next hb (by have := hb.size; omega) hv
      replace k0 := keeps hv k0
      replace k1 := keeps hv k1
      clear hv
      simp only [List.drop_succ_cons, List.drop_zero]
      have hl1 := lt_of_get k1
      have hone := Lib.hid (one_tcl x (1 + P % 3) (⟨#[116, 97, 108, 108, 121]⟩ : ByteArray))
      go_wp2_with (first | (refine list_store_whole _ _ _ _ (tcl x (1 + P % 3) (⟨#[116, 97, 108, 108, 121]⟩ : ByteArray)) taskN 33 rfl rfl rfl rfl k1 rfl (by kernel_rfl) hone.out ?_; intro w7 hbut kr))
      refine calm_normal ?_
      go_wp2
      have hbe := hbut.below hb (by omega) (by omega)
      rw [← hq] at hbe
      have hld := loadVar_whole (ty := 33) (cs := tcl x (1 + P % 3) (⟨#[116, 97, 108, 108, 121]⟩ : ByteArray)) _ (At0.of_block kr) Tryd.underlying33 rfl (by kernel_rfl)
      refine bodyPost_ret (v := .agg (tcl x (1 + P % 3) (⟨#[116, 97, 108, 108, 121]⟩ : ByteArray)).toArray) (results_cellT Tryd.results12 rfl hld) rfl ⟨rfl, hbe⟩
theorem task_good (K F B L W C P T : Int) (p0 : 0 ≤ P) : TGood (smallC K F B L W C) (1 + P % 3) (tagB (T % 3)) := ⟨small_good K F B L W C, by omega, by omega, tagB_le _⟩
end Go.Proofs.YtpojhomccmfffaaDoor
