/-
  Awake of the law on statistics.
-/
import Derived.Test.YtnaakklfbegldaaStD
import Derived.Test.YtnaakklfbegldaaMid
import Derived.Test.YtnaakklfbegldaaSeg
import Derived.BigQuiet
namespace Go.Proofs.Ytnaakklfbegldaa
open Go.RowKit Flow
set_option linter.unusedVariables false
set_option linter.unusedSimpArgs false
attribute [local go_sem] bits_run from_run

theorem cell_lt {w : World} {g o : Nat} {v : Value} (h : w.cell? ⟨g, o, none⟩ = some v) : g < w.heap.size := by
  apply Nat.lt_of_not_le
  intro hle
  have : w.heap[g]? = none := by simp [hle]
  simp [World.cell?, this] at h
theorem results_cell1 {P : Program} {fn : Func} {tmps : Array Value} {w : World} {a : Nat} {t : TypeId} {b : Nat} {v : Value} (hr : fn.results = #[.cell a t]) (ha : tmps.getD a undef = .pointer (some ⟨b, 0, none⟩))
    (h : (loadVar t ⟨b, 0, none⟩).run P w = .ok v w) : (results fn tmps).run P w = .ok v w := by
  rw [Array.getD_eq_getD_getElem?] at ha
  simp [results, hr, asAddr, ha, h]
theorem cells4 {w : World} {q : Nat} {t : TypeId} {a b c d : Value} (h : w.heap[q]? = some (.cells [a, b, c, d].toArray t (0, 0))) : w.cell? ⟨q, 0, none⟩ = some a ∧ w.cell? ⟨q, 1, none⟩ = some b ∧ w.cell? ⟨q, 2, none⟩ = some c ∧ w.cell? ⟨q, 3, none⟩ = some d := by
  refine ⟨?_, ?_, ?_, ?_⟩ <;> simp [World.cell?, h]
theorem four_at (w : World) {t : TypeId} : ∀ k, k < 4 → (w.alloc (.cells #[.float .f64 9221120237041090561, .float .f64 4611686018427387904, .float .f64 9223372036854775808, .float .f64 0] t (0, 0))).cell? ⟨w.heap.size, k, none⟩ = some (.float .f64 (four.getD k 0)) := by
  intro k hk
  have : k = 0 ∨ k = 1 ∨ k = 2 ∨ k = 3 := by omega
  have h := alloc_at (w := w) (k := w.heap.size) (o := .cells #[.float .f64 9221120237041090561, .float .f64 4611686018427387904, .float .f64 9223372036854775808, .float .f64 0] t (0, 0)) rfl
  generalize w.alloc _ = w1 at *
  rcases this with rfl | rfl | rfl | rfl <;> simp [World.cell?, h, four]
theorem copysign_zero (w : World) : Calls Try.prog 23 #[.float .f64 0, .float .f64 13830554455654793216] w fun e w' => e = .returned (.float .f64 9223372036854775808) ∧ Below w.heap.size w w' := by
  go_enter Try.func23, Try.ntmps23
  go_wp2
  go_ret
  exact ⟨rfl, Below.refl _ _⟩
set_option maxRecDepth 20000 in
set_option maxHeartbeats 8000000 in
theorem summarize_awake (hsort : SortSaid) (b : Nat) (w : World) (hc : ∀ k, k < 4 → w.cell? ⟨b, k, none⟩ = some (.float .f64 (four.getD k 0))) (hbw : b < w.heap.size) :
    Calls Try.prog 15 #[.slice (some ⟨b, 0, none⟩) 4 4] w fun e w' => e = .returned (.agg #[.int .i64 3, .float .f64 9223372036854775808, .float .f64 4611686018427387904, .float .f64 0]) ∧ Below w.heap.size w w' := by
  go_enter Try.func15, Try.ntmps15
  have hb := (Below.refl w.heap.size w).alloc (Nat.le_refl _) (.cells #[.int .i64 0, .float .f64 0, .float .f64 0, .float .f64 0] 43 (0, 0))
  go_wp2_with fail
  refine (sorted_awake hsort b _ (fun k hk => (hb.cell (p := ⟨b, k, none⟩) hbw).trans (hc k hk)) (Nat.lt_of_lt_of_le hbw hb.size)).mono ?_
  rintro e w3 ⟨g, cap, rfl, hb3, t0, t1, t2⟩
  have kz : w3.heap[w.heap.size]? = some (.cells #[.int .i64 0, .float .f64 0, .float .f64 0, .float .f64 0] 43 (0, 0)) := keeps hb3 (alloc_at rfl)
  replace hb := below_next hb hb.size hb3
  clear hb3
  go_wp2
  refine seg_start 16 (by kernel_rfl) (by decide) ?_
  intro v0 hv0
  have u0 := (hv0.cell (p := ⟨g, 0, none⟩) (cell_lt t0)).trans t0
  have u1 := (hv0.cell (p := ⟨g, 1, none⟩) (cell_lt t0)).trans t1
  have u2 := (hv0.cell (p := ⟨g, 2, none⟩) (cell_lt t0)).trans t2
  replace hb := below_next hb hb.size hv0
  replace kz := keeps hv0 kz
  clear hv0 t0 t1 t2
  refine seg_batch 0 [0, 1, 2, 3, 4, 5, 6, 7, 8, 9, 10, 11, 12, 13, 14, 15] (by kernel_rfl) rfl (by kernel_rfl) (by kernel_rfl) (by kernel_rfl) ?_
  apply Exists.intro
  refine ⟨fun ι _ φ hφ => ?_, fun v1 hv1 => ?_⟩
  · have f0 : ∀ i, (φ i).cell? ⟨g, 0, none⟩ = _ := fun i => ((hφ.old i).cell (p := ⟨g, 0, none⟩) (cell_lt u0)).trans u0
    have f1 : ∀ i, (φ i).cell? ⟨g, 1, none⟩ = _ := fun i => ((hφ.old i).cell (p := ⟨g, 1, none⟩) (cell_lt u0)).trans u1
    have f2 : ∀ i, (φ i).cell? ⟨g, 2, none⟩ = _ := fun i => ((hφ.old i).cell (p := ⟨g, 2, none⟩) (cell_lt u0)).trans u2
    repeat (refine pick_step rfl ?_; go_big_quiet_step (fail))
    exact pick_end
  replace hb := below_next hb hb.size hv1
  replace kz := keeps hv1 kz
  clear hv1 u0 u1 u2
  refine seg_tail (by kernel_rfl) ?_
  intro v7 hv7
  replace hb := below_next hb hb.size hv7
  replace kz := keeps hv7 kz
  clear hv7
  simp only [List.drop_succ_cons, List.drop_zero]
  have hone : ∀ u ∈ [Value.int .i64 3, .float .f64 9223372036854775808, .float .f64 4611686018427387904, .float .f64 0], u.oneCell' = true := by
    intro u hu
    simp only [List.mem_cons, List.not_mem_nil, or_false] at hu
    rcases hu with rfl | rfl | rfl | rfl <;> rfl
  go_wp2_with (first
    | (refine list_store_whole _ _ _ _ [.int .i64 3, .float .f64 9223372036854775808, .float .f64 4611686018427387904, .float .f64 0] [.int .i64 0, .float .f64 0, .float .f64 0, .float .f64 0] 43 rfl rfl rfl rfl kz rfl (by kernel_rfl) hone ?_; intro w8 hbut kz2; replace hb := hbut.below hb (Nat.le_refl _) hb.size))
  refine calm_normal ?_
  go_wp2
  have hld := loadVar_whole _ (At0.of_block kz2) Try.underlying43 rfl (by kernel_rfl)
  exact bodyPost_ret (v := .agg #[.int .i64 3, .float .f64 9223372036854775808, .float .f64 4611686018427387904, .float .f64 0]) (results_cell1 Try.results15 rfl hld) rfl ⟨rfl, hb⟩
theorem sgn_neg : sgn 9223372036854775808 = true := by decide +kernel
theorem sgn_pos : sgn 0 = false := by decide +kernel
set_option maxRecDepth 20000 in
set_option maxHeartbeats 8000000 in
theorem awake_any (hsort : SortSaid) (w : World) : Calls Try.prog 9 #[] w fun e w' => e = .returned (.bool true) ∧ Below w.heap.size w w' := by
  have s1 := signbit_any 9223372036854775808
  have s2 := signbit_any 0
  rw [sgn_neg] at s1
  rw [sgn_pos] at s2
  replace s1 := Lib.hid s1
  replace s2 := Lib.hid s2
  have o1 : (FloatKind.f64.format.order 9223372036854775808 0 == some .eq) = true := by decide +kernel
  have o2 : (FloatKind.f64.format.order 4611686018427387904 4611686018427387904 == some .eq) = true := by decide +kernel
  have o3 : (FloatKind.f64.format.order 0 0 == some .eq) = true := by decide +kernel
  have hone : ∀ u ∈ [Value.int .i64 3, .float .f64 9223372036854775808, .float .f64 4611686018427387904, .float .f64 0], u.oneCell' = true := by
    intro u hu
    simp only [List.mem_cons, List.not_mem_nil, or_false] at hu
    rcases hu with rfl | rfl | rfl | rfl <;> rfl
  have hb := Below.refl w.heap.size w
  go_enter Try.func9, Try.ntmps9
  go_wp2_with fail
  refine call_then (nan_any _) ?_
  intro w2 hb2
  replace hb := below_next hb hb.size hb2
  clear hb2
  go_wp2_with fail
  refine call_then (copysign_zero _) ?_
  intro w3 hb2
  replace hb := below_next hb hb.size hb2
  clear hb2
  go_wp2_with fail
  refine name_calls (fun w4 => Below w.heap.size w w4 ∧ w3.heap.size < w4.heap.size ∧ ∀ k, k < 4 → w4.cell? ⟨w3.heap.size, k, none⟩ = some (.float .f64 (four.getD k 0))) ⟨hb.alloc hb.size _, by simp, four_at w3⟩ ?_
  clear hb
  generalize w3.heap.size = b at *
  rintro w4 ⟨hb, hbw, hc⟩
  refine call_then (summarize_awake hsort b w4 hc hbw) ?_
  intro w5 hb2
  replace hb := below_next hb hb.size hb2
  clear hb2 hc hbw
  go_wp2_with (first
    | (refine list_store_whole _ _ _ _ [.int .i64 3, .float .f64 9223372036854775808, .float .f64 4611686018427387904, .float .f64 0] [.int .i64 0, .float .f64 0, .float .f64 0, .float .f64 0] 43 rfl rfl rfl rfl (alloc_at rfl) rfl (by kernel_rfl) hone ?_; intro w6 hbut kz; replace hb := hbut.below (hb.alloc hb.size _) hb.size (by have := hb.size; simp; omega); obtain ⟨c0, c1, c2, c3⟩ := cells4 kz))
  refine call_then (s1.out _) ?_
  intro w7 hb2
  replace hb := below_next hb hb.size hb2
  obtain ⟨d0, d1, d2, d3⟩ := cells4 (keeps hb2 kz)
  clear hb2 c0 c1 c2 c3
  go_wp2_with fail
  refine call_then (s2.out _) ?_
  intro w8 hb2
  replace hb := below_next hb hb.size hb2
  go_wp2
  go_ret
  exact ⟨rfl, hb⟩
end Go.Proofs.Ytnaakklfbegldaa
