/-
  BucketStarts: its walk.
-/
import Derived.Test.YtpojhomccmfffaaDoorBuG
namespace Go.Proofs.YtpojhomccmfffaaDoor
open Go.RowKit Flow F
set_option linter.unusedVariables false
set_option linter.unusedSimpArgs false

set_option maxRecDepth 20000 in
set_option maxHeartbeats 2000000 in
theorem rules_small (a b c : Int) (a0 : 0 ≤ a) (a1 : a ≤ 255) (b0 : 0 ≤ b) (b1 : b ≤ 255) (c0 : 0 ≤ c) (c1 : c ≤ 255) (w : World) : Calls Tryd.prog 33 #[.agg #[.int .u8 a, .int .u8 b, .int .u8 c]] w fun e w' => e = .returned (.agg #[.int .u64 (1 + a % 12), .int .i64 (1 + b % 4), .int .i64 (1 + b % 4 + c % 6)]) ∧ Below w.heap.size w w' := by
  go_enter Tryd.func33, Tryd.ntmps33
  go_wp2
  refine bodyPost_ret (v := .agg #[.int .u64 (1 + a % 12), .int .i64 (1 + b % 4), .int .i64 (1 + b % 4 + c % 6)]) (by simp [results, Tryd.results33, go_sem]) rfl ⟨rfl, ?_⟩
  exact (((Below.refl _ _).alloc (Nat.le_refl _) _).alloc (by simp) _).alloc (by simp; omega) _
def sm19 (a b c : Int) : List Value := [.int .u8 a, .int .u8 b, .int .u8 c]
theorem start_le {W now : Int} (w0 : 0 ≤ W) (n0 : 0 ≤ now) : 0 ≤ startF W now ∧ startF W now ≤ now := by
  unfold startF
  by_cases h : W = 0
  · rw [if_pos h]; omega
  · rw [if_neg h]
    have hm := Int.emod_nonneg now h
    have := Int.mul_ediv_add_emod now W
    have h2 : 0 ≤ W * (now / W) := Int.mul_nonneg w0 (Int.ediv_nonneg n0 w0)
    omega
theorem start_same (W now : Int) : startF W (startF W now) = startF W now := by
  by_cases h : W = 0
  · simp [startF, h]
  · have e : startF W now = W * (now / W) := by
      have := Int.mul_ediv_add_emod now W
      simp only [startF, if_neg h]
      omega
    rw [e]
    simp [startF, h]
theorem rul_mid {w : World} {g k : Nat} {a0 a1 a2 b0 b1 b2 : Value} {t : TypeId} (h : w.heap[g]? = some (.cells #[a0, a1, a2, b0, b1, b2] t (0, 0))) (hk : k < 2) : w.rangeAt g (k * 3) (if k = 0 then [a0, a1, a2] else [b0, b1, b2]) := fun j v hj => by
  have g := At0.of_block (cs := [a0, a1, a2, b0, b1, b2]) h
  have hk2 : k = 0 ∨ k = 1 := by omega
  rcases hk2 with rfl | rfl
  · rw [if_pos rfl] at hj
    match j, hj with
    | 0, hj => exact g 0 v hj
    | 1, hj => exact g 1 v hj
    | 2, hj => exact g 2 v hj
  · rw [if_neg (by decide)] at hj
    match j, hj with
    | 0, hj => exact g 3 v hj
    | 1, hj => exact g 4 v hj
    | 2, hj => exact g 5 v hj
theorem left_2 {k : Nat} (h : k < 2) : 2 - (intOf (.int .i64 ((k : Int) + 1))).toNat < 2 - (intOf (.int .i64 (k : Int))).toNat := by
  show 2 - ((k : Int) + 1).toNat < 2 - ((k : Int)).toNat
  omega
set_option maxRecDepth 20000 in
set_option maxHeartbeats 8000000 in
theorem starts_walk (W mn mx now a b c : Int) (w0 : 0 ≤ W) (wz : W < 18446744073709551616) (n0 : 0 ≤ now) (n1 : now < 18446744073709551616) (a0 : 0 ≤ a) (a1 : a ≤ 255) (b0 : 0 ≤ b) (b1 : b ≤ 255) (c0 : 0 ≤ c) (c1 : c ≤ 255) (w : World) (hT : Tabs w) :
    Calls Tryd.prog 7 #[.agg #[.int .u64 W, .int .i64 mn, .int .i64 mx], .int .u64 now, .agg #[.int .u8 a, .int .u8 b, .int .u8 c]] w fun e w' => e = .returned (.bool true) ∧ Below w.heap.size w w' := by
  have hA := Lib.hid (bawake_ok w)
  have hR := Lib.hid (fun w => (rules_small a b c a0 a1 b0 b1 c0 c1 w : Calls Tryd.prog 33 #[.agg (sm19 a b c).toArray] w _))
  have hS := Lib.hid (fun (W mn mx now : Int) w0 w1 n0 n1 w => (start_any W mn mx now w0 w1 n0 n1 w : Calls Tryd.prog 34 #[.agg #[.int .u64 W, .int .i64 mn, .int .i64 mx], .int .u64 now] w _))
  obtain ⟨W2, hW2⟩ : ∃ W2, 1 + a % 12 = W2 := ⟨_, rfl⟩
  obtain ⟨mn2, hmn2⟩ : ∃ mn2, 1 + b % 4 = mn2 := ⟨_, rfl⟩
  obtain ⟨mx2, hmx2⟩ : ∃ mx2, mn2 + c % 6 = mx2 := ⟨_, rfl⟩
  rw [hW2, hmn2, hmx2] at hR
  have w20 : 0 ≤ W2 := by omega
  have w21 : W2 < 18446744073709551616 := by omega
  clear hW2 hmn2 hmx2 a0 a1 b0 b1 c0 c1
  replace hT := Lib.hid hT
  go_enter Tryd.func7, Tryd.ntmps7
  go_upto_region 1 with (fail)
  refine name_wp (fun w1 => Below w.heap.size w w1 ∧ w1.heap.size = w.heap.size + 2 ∧ w1.heap[w.heap.size]? = some (.cells (rul W mn mx).toArray 80 (0, 0)) ∧ w1.heap[w.heap.size + 1]? = some (.cells (sm19 a b c).toArray 82 (0, 0)))
    ⟨((Below.refl _ _).alloc (Nat.le_refl _) _).alloc (by simp) _, by simp, alloc_keeps (alloc_at rfl), alloc_at (by simp)⟩ ?_
  rintro w1 ⟨hb, hsz, k0, k1⟩
  have hA1 := Lib.hid (bawake_ok w1 (hT.out.up hb))
  clear hA
  go_wp2_with fail
  refine call_then hA1.out ?_
  intro w2 hv
  replace k0 := keeps hv k0
  replace k1 := keeps hv k1
  replace hb := below_next hb (by omega) hv
  clear hv hA1 hsz
  go_wp2
  refine segS_start (gb := fun _ => True) 6 (by kernel_rfl) (by decide) ?_
  intro v0 hv
  replace k0 := keeps hv k0
  replace k1 := keeps hv k1
  replace hb := below_next hb hb.size hv
  clear hv
  refine segS_batch 2 [0, 1, 2, 5] (by kernel_rfl) rfl (by kernel_rfl) (by kernel_rfl) (by kernel_rfl) ?_
  apply Exists.intro
  refine ⟨fun ι _ φ hφ => ?_, fun v1 hv => ?_⟩
  · repeat (refine pick_step rfl ?_; first
      | (refine quiet_load_mid _ _ _ 0 _ _ rfl rfl rfl (mid_familyT hφ (At0.of_block k0) trivial) Tryd.underlying80 rfl (by kernel_rfl) ?_; simp only [Act.put, List.setIfInBounds_toArray, List.set_cons_succ, List.set_cons_zero])
      | (refine quiet_load_mid _ _ _ 0 _ _ rfl rfl rfl (mid_familyT hφ (At0.of_block k1) trivial) Tryd.underlying82 rfl (by kernel_rfl) ?_; simp only [Act.put, List.setIfInBounds_toArray, List.set_cons_succ, List.set_cons_zero])
      | go_big_quiet_step ((go_at_call 33; exact flowS_call hφ (hR.out _))))
    exact pick_end
  replace hb := below_next hb hb.size hv
  clear hv k0 k1 hR
  refine segS_one 3 _ (by decide) rfl (by kernel_rfl) ?_
  intro v2 K2 hv hK
  replace hb := below_next hb hb.size hv
  clear hv
  replace hK := Lib.hid hK
  unfold rul
  go_simp
  refine hK.out _ _ (HeldS.of_below ((Below.refl v2.heap.size v2).alloc (Nat.le_refl _) _)) ?_
  clear hK K2
  have kg := alloc_at (w := v2) (k := v2.heap.size) (o := .cells #[.int .u64 W, .int .i64 mn, .int .i64 mx, .int .u64 W2, .int .i64 mn2, .int .i64 mx2] 80 (0, 0)) rfl
  replace hb := hb.alloc hb.size (.cells #[.int .u64 W, .int .i64 mn, .int .i64 mx, .int .u64 W2, .int .i64 mn2, .int .i64 mx2] 80 (0, 0))
  generalize v2.alloc (.cells #[.int .u64 W, .int .i64 mn, .int .i64 mx, .int .u64 W2, .int .i64 mn2, .int .i64 mx2] 80 (0, 0)) = v3 at *
  generalize v2.heap.size = g at *
  refine segS_batch 0 [4] (by kernel_rfl) rfl (by kernel_rfl) (by kernel_rfl) (by kernel_rfl) ?_
  apply Exists.intro
  refine ⟨fun ι _ φ hφ => ?_, fun v1 hv => ?_⟩
  · repeat (refine pick_step rfl ?_; go_big_quiet_step (fail))
    exact pick_end
  replace kg := keeps hv kg
  replace hb := below_next hb hb.size hv
  clear hv
  refine segS_done rfl (by kernel_rfl) ?_
  intro v5 hv
  replace kg := keeps hv kg
  replace hb := below_next hb hb.size hv
  clear hv
  go_wp2
  go_loopw [17] (fun i wr => ∃ k : Nat, k ≤ 2 ∧ i = .int .i64 (k : Int) ∧ Below w.heap.size w wr ∧ wr.heap[g]? = some (.cells #[.int .u64 W, .int .i64 mn, .int .i64 mx, .int .u64 W2, .int .i64 mn2, .int .i64 mx2] 80 (0, 0))) (fun i _ => 2 - (intOf i).toNat)
  case atStart => exact ⟨0, by omega, rfl, hb, kg⟩
  case round =>
    clear hb kg
    obtain ⟨k, hk, rfl, hb, kg⟩ := hrel
    by_cases hlt : k < 2
    · have hm := rul_mid kg hlt
      obtain ⟨V, vn, vx, hV, hmid, v0, v1⟩ : ∃ V vn vx : Int, Hid ((if k = 0 then [Value.int .u64 W, .int .i64 mn, .int .i64 mx] else [.int .u64 W2, .int .i64 mn2, .int .i64 mx2]) = [.int .u64 V, .int .i64 vn, .int .i64 vx]) ∧ wr.rangeAt g (k * 3) [.int .u64 V, .int .i64 vn, .int .i64 vx] ∧ 0 ≤ V ∧ V < 18446744073709551616 := by
        by_cases hk0 : k = 0
        · rw [if_pos hk0] at hm ⊢
          exact ⟨W, mn, mx, Lib.hid rfl, hm, w0, wz⟩
        · rw [if_neg hk0] at hm ⊢
          exact ⟨W2, mn2, mx2, Lib.hid rfl, hm, w20, w21⟩
      clear hm hV
      have i0 : (0 : Int) ≤ (k : Int) := by omega
      have i1 : (k : Int) < 2 := by omega
      have hle := start_le v0 n0
      have hS1 := Lib.hid (fun w => hS.out V vn vx now v0 v1 n0 n1 w)
      have hS2 := fun w => hS.out V vn vx (startF V now) v0 v1 hle.1 (by omega) w
      rw [start_same] at hS2
      replace hS2 := Lib.hid hS2
      by_cases hz : V = 0
      · subst hz
        have e : startF 0 now = now := by simp [startF]
        rw [e] at hS1 hS2
        clear hle hS e
        go_upto_region 9 with (first
          | (refine list_load_mid _ _ _ (k * 3) _ _ rfl rfl rfl hmid Tryd.underlying80 rfl (by kernel_rfl) ?_))
        refine name_wp (fun w1 => Below w.heap.size w w1 ∧ w1.heap[g]? = some (.cells #[.int .u64 W, .int .i64 mn, .int .i64 mx, .int .u64 W2, .int .i64 mn2, .int .i64 mx2] 80 (0, 0)) ∧ w1.heap[wr.heap.size]? = some (.cells (rul (0) vn vx).toArray 80 (0, 0))) ⟨hb.alloc hb.size _, alloc_keeps kg, alloc_at rfl⟩ ?_
        clear hb kg hmid
        generalize wr.heap.size = o at *
        rintro w1 ⟨hb, kg, kx⟩
        go_wp2_with (first
          | (refine list_load_mid _ _ _ 0 _ _ rfl rfl rfl (At0.of_block kx) Tryd.underlying80 rfl (by kernel_rfl) ?_))
        refine call_then (hS1.out _) ?_
        intro w2 hv
        replace kg := keeps hv kg
        replace kx := keeps hv kx
        replace hb := below_next hb hb.size hv
        clear hv hS1
        go_wp2_with (first
          | (refine list_load_mid _ _ _ 0 _ _ rfl rfl rfl (At0.of_block kx) Tryd.underlying80 rfl (by kernel_rfl) ?_))
        refine call_then (hS2.out _) ?_
        intro w3 hv
        replace kg := keeps hv kg
        replace hb := below_next hb hb.size hv
        clear hv hS2 kx
        go_wp2
        exact ⟨⟨k + 1, by omega, by go_num, hb, kg⟩, left_2 hlt⟩
      · have hne : decide (V > 0) = true := by simp; omega
        have htm : now.tmod V = now % V := Int.tmod_eq_emod_of_nonneg n0
        have e : startF V now = now - now % V := by simp [startF, hz]
        rw [e] at hS1 hS2 hle
        have hm0 := Int.emod_nonneg now hz
        obtain ⟨Y, hY⟩ : ∃ Y, now % V = Y := ⟨_, rfl⟩
        rw [hY] at hS1 hS2 hle htm hm0
        replace hY := Lib.hid hY
        have hle1 := hle.1
        clear e hS hle
        go_upto_region 9 with (first
          | (refine list_load_mid _ _ _ (k * 3) _ _ rfl rfl rfl hmid Tryd.underlying80 rfl (by kernel_rfl) ?_))
        refine name_wp (fun w1 => Below w.heap.size w w1 ∧ w1.heap[g]? = some (.cells #[.int .u64 W, .int .i64 mn, .int .i64 mx, .int .u64 W2, .int .i64 mn2, .int .i64 mx2] 80 (0, 0)) ∧ w1.heap[wr.heap.size]? = some (.cells (rul (V) vn vx).toArray 80 (0, 0))) ⟨hb.alloc hb.size _, alloc_keeps kg, alloc_at rfl⟩ ?_
        clear hb kg hmid
        generalize wr.heap.size = o at *
        rintro w1 ⟨hb, kg, kx⟩
        go_wp2_with (first
          | (refine list_load_mid _ _ _ 0 _ _ rfl rfl rfl (At0.of_block kx) Tryd.underlying80 rfl (by kernel_rfl) ?_))
        refine call_then (hS1.out _) ?_
        intro w2 hv
        replace kg := keeps hv kg
        replace kx := keeps hv kx
        replace hb := below_next hb hb.size hv
        clear hv hS1
        go_wp2_with (first
          | (refine list_load_mid _ _ _ 0 _ _ rfl rfl rfl (At0.of_block kx) Tryd.underlying80 rfl (by kernel_rfl) ?_))
        refine call_then (hS2.out _) ?_
        intro w3 hv
        replace kg := keeps hv kg
        replace hb := below_next hb hb.size hv
        clear hv hS2 kx
        go_wp2
        exact ⟨⟨k + 1, by omega, by go_num, hb, kg⟩, left_2 hlt⟩
    · obtain rfl : k = 2 := by omega
      go_wp2
      go_ret
      exact ⟨rfl, hb⟩
end Go.Proofs.YtpojhomccmfffaaDoor
