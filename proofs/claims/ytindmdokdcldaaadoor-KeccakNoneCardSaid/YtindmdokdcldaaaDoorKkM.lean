/-
  KeccakPermutes: any state, permuted so often, is as it is meant, where the listed tables read as the program lays them.
-/
import Derived.Test.YtindmdokdcldaaaDoorKkL
import Derived.Test.YtindmdokdcldaaaDoorCard
namespace Go.Proofs.YtindmdokdcldaaaDoor
open Go.RowKit Flow
set_option linter.unusedVariables false
set_option linter.unusedSimpArgs false

theorem bys_nil (w : World) (b : Nat) : Bys w b none [] := fun i hi => absurd hi (Nat.not_lt_zero _)
set_option maxHeartbeats 2000000 in
theorem awake_ok (w : World) (hT : Tabs w) : Calls Tryd.prog 6 #[] w fun e w' => e = .returned (.bool true) ∧ Below w.heap.size w w' := by
  have h1 := hT.two
  have hb0 := (Below.refl w.heap.size w).alloc (Nat.le_refl _) (.cells (arr (fun _ => 0) 25).toArray 25 (0, 0))
  have hs0 : Nums (w.alloc (.cells (arr (fun _ => 0) 25).toArray 25 (0, 0))) w.heap.size 25 25 (fun _ => 0) := alloc_at rfl
  have hP := Lib.hid (permute_ok w.heap.size h1 25 [] (fun _ => 0) good_zero.1 _ hs0.sta (hT.up hb0))
  have hneq : ∀ w, (binOp .neq 25 (.agg (arr (permP (fun _ => 0) 12) 25).toArray) (.agg #[.int .u64 0, .int .u64 0, .int .u64 0, .int .u64 0, .int .u64 0, .int .u64 0, .int .u64 0, .int .u64 0, .int .u64 0, .int .u64 0, .int .u64 0, .int .u64 0, .int .u64 0, .int .u64 0, .int .u64 0, .int .u64 0, .int .u64 0, .int .u64 0, .int .u64 0, .int .u64 0, .int .u64 0, .int .u64 0, .int .u64 0, .int .u64 0, .int .u64 0])).run Tryd.prog w = .ok (.bool true) w := fun w => neq_zero Tryd.underlying25 _ perm_zero w
  have hH0 : ∀ w, Tabs w → Calls Tryd.prog 9 #[.int .u8 1, .slice none 0 0, .int .i64 0] w fun e w' => ∃ g, e = .returned (.slice (some ⟨g, 0, none⟩) 0 0) ∧ Below w.heap.size w w' ∧ w.heap.size ≤ g ∧ Oct w' g 0 (hashP 1 []) := fun w hT => hash_ok 1 (by decide) (by decide) none 0 [] (fun x hx => by cases hx) (by decide) 0 0 (by decide) (by decide) w hT (bys_nil _ _)
  have hH3 : ∀ w, Tabs w → Calls Tryd.prog 9 #[.int .u8 1, .slice none 0 0, .int .i64 3] w fun e w' => ∃ g, e = .returned (.slice (some ⟨g, 0, none⟩) 3 3) ∧ Below w.heap.size w w' ∧ w.heap.size ≤ g ∧ Oct w' g 3 (hashP 1 []) := fun w hT => hash_ok 1 (by decide) (by decide) none 0 [] (fun x hx => by cases hx) (by decide) 3 3 (by decide) (by decide) w hT (bys_nil _ _)
  replace hH0 := Lib.hid hH0
  replace hH3 := Lib.hid hH3
  have hTb := hT.up hb0
  replace hTb := Lib.hid hTb
  replace hb0 := Lib.hid hb0
  clear hs0 hT
  have hl := cells25 (permP (fun _ => 0) 12)
  generalize permP (fun _ => 0) 12 = G at *
  replace hl := Lib.hid hl
  go_enter Tryd.func6, Tryd.ntmps6
  go_wp2_with fail
  refine hP.out.mono ?_
  rintro e w1 ⟨rfl, hb1, hs1⟩
  have hT1 := hTb.out.but hb1 h1
  have hw1 : Below w.heap.size w w1 := hb1.below hb0.out (Nat.le_refl _) hb0.out.size
  clear hP hb1 hTb hb0
  go_wp2_with fail
  refine (hH0.out w1 hT1).mono ?_
  rintro e w2 ⟨g2, rfl, hb2, -, -⟩
  have hT2 := hT1.up hb2
  have hs2 := hs1.up hb2
  have hw2 := below_next hw1 hw1.size hb2
  clear hH0 hb2 hs1 hT1 hw1
  go_wp2_with fail
  refine (hH3.out w2 hT2).mono ?_
  rintro e w3 ⟨g3, rfl, hb3, -, -⟩
  have hs3 := hs2.up hb3
  have hw3 := below_next hw2 hw2.size hb3
  have hsa := hs3.at0
  clear hH3 hb3 hs2 hT2 hw2 hs3
  go_wp2_with (refine list_load_mid _ _ _ 0 _ _ rfl rfl rfl hsa Tryd.underlying25 rfl (by rw [hl.out]; kernel_rfl) ?_)
  go_ret
  exact ⟨rfl, hw3⟩
/-- Permuted so often. -/
def iterP (f : Nat → Nat) : Nat → Nat → Nat
  | 0 => f
  | k + 1 => permP (iterP f k) 12
theorem iterP_lim {f : Nat → Nat} (h : Lim f) : ∀ k, Lim (iterP f k)
  | 0 => h
  | k + 1 => permP_lim (iterP_lim h k) 12
set_option maxHeartbeats 4000000 in
theorem permutes_walk (f : Nat → Nat) (hf : Lim f) (n : Nat) (hn : n < 256) (w : World) (hT : Tabs w) : Calls Tryd.prog 3 #[.agg (arr f 25).toArray, .int .u8 (n : Int)] w fun e w' => e = .returned (.bool true) ∧ Below w.heap.size w w' := by
  have n0 : (0 : Int) ≤ (n : Int) := by omega
  have hb0 := (Below.refl w.heap.size w).alloc (Nat.le_refl _) (.cells (arr f 25).toArray 23 (0, 0))
  have hs0 : Nums (w.alloc (.cells (arr f 25).toArray 23 (0, 0))) w.heap.size 23 25 f := alloc_at rfl
  have hA := Lib.hid (awake_ok _ (hT.up hb0))
  have hw1 := hT.two
  replace hf := Lib.hid hf
  replace hT := Lib.hid hT
  obtain ⟨N, hN⟩ : ∃ N, n % 3 = N := ⟨_, rfl⟩
  have hN3 : N < 3 := by omega
  have eN : (n : Int) % 3 = (N : Int) := by omega
  have N0 : (0 : Int) ≤ (N : Int) := by omega
  have N1 : (N : Int) < 3 := by omega
  replace hN := Lib.hid hN
  go_enter Tryd.func3, Tryd.ntmps3
  go_wp2_with fail
  refine call_then hA.out ?_
  intro w1 hb1
  have hs1 := hs0.up hb1
  have hbw1 := below_next hb0 hb0.size hb1
  have hsa := hs1.at0
  have hl := cells25 f
  have hone := arr_one f 25
  replace hl := Lib.hid hl
  replace hone := Lib.hid hone
  clear hA hb1 hs0 hb0
  go_upto_region 4 with (first
    | (refine list_load_mid _ _ _ 0 _ _ rfl rfl rfl hsa Tryd.underlying23 rfl (by rw [hl.out]; kernel_rfl) ?_)
    | (refine list_store_whole _ _ _ _ (arr f 25) (arr (fun _ => 0) 25) 25 rfl rfl rfl rfl (alloc_at rfl) (by rw [hl.out]; exact (arr_len _ _)) (by rw [hl.out]; kernel_rfl) hone.out ?_; intro w3 hbut kz))
  have hb3 : Below w1.heap.size w1 w3 := hbut.below ((Below.refl _ _).alloc (Nat.le_refl _) _) (Nat.le_refl _) (by simp)
  have hbw3 := below_next hbw1 hbw1.size hb3
  have hs3 := hs1.up hb3
  have hx3 : Sta w3 w1.heap.size 25 [] (iterP f 0) := Nums.sta kz
  have hs3' : Nums w3 w.heap.size 23 25 (iterP f 0) := hs3
  have hlt1 : w.heap.size < w1.heap.size := hs1.lt
  clear hs1 hsa hbut kz hb3 hbw1 hone hl hs3
  generalize w1.heap.size = p at *
  go_wp2
  rw [eN]
  go_loopw [11] (fun i wr => ∃ k : Nat, k ≤ N ∧ i = .int .u8 (k : Int) ∧ Below w.heap.size w wr ∧ Nums wr w.heap.size 23 25 (iterP f k) ∧ Sta wr p 25 [] (iterP f k)) (fun i _ => N - (intOf i).toNat)
  case atStart => exact ⟨0, by omega, rfl, hbw3, hs3', hx3⟩
  case round =>
    clear hbw3 hs3' hx3
    obtain ⟨k, hk, rfl, hb, hs, hx⟩ := hrel
    have hL := iterP_lim hf.out k
    by_cases hlt : k < N
    · have k0 : (0 : Int) ≤ (k : Int) := by omega
      have k1 : (k : Int) < (N : Int) := by omega
      have hstep : iterP f (k + 1) = permP (iterP f k) 12 := rfl
      generalize iterP f k = g at *
      have hP := Lib.hid (permute_ok p (by omega) 25 [] g hL wr hx (hT.out.up hb))
      have hR := fun w => refPerm_ok g hL w
      have hl := cells25 g
      have hl2 := cells25 (permP g 12)
      have hone := arr_one (permP g 12) 25
      replace hR := Lib.hid hR
      replace hl := Lib.hid hl
      replace hl2 := Lib.hid hl2
      replace hone := Lib.hid hone
      replace hstep := Lib.hid hstep
      replace hL := Lib.hid hL
      clear hx
      go_wp2_with fail
      refine hP.out.mono ?_
      rintro e w4 ⟨rfl, hbut4, hx4⟩
      replace hb := hbut4.below hb (by omega) hb.size
      replace hs := hs.but hbut4 (by omega)
      have hsa := hs.at0
      clear hP hbut4
      go_wp2_with (refine list_load_mid _ _ _ 0 _ _ rfl rfl rfl hsa Tryd.underlying23 rfl (by rw [hl.out]; kernel_rfl) ?_)
      refine call_then (hR.out _) ?_
      intro w5 hb5
      replace hb := below_next hb hb.size hb5
      replace hs := hs.up hb5
      replace hx4 := hx4.up hb5
      unfold Nums at hs
      clear hb5 hsa hR
      go_wp2_with (refine list_store_whole _ _ _ _ (arr (permP g 12) 25) (arr g 25) 23 rfl rfl rfl rfl hs (by rw [hl.out, hl2.out]) (by rw [hl2.out]; kernel_rfl) hone.out ?_; intro w6 hbut kz)
      exact ⟨⟨k + 1, by omega, by go_num, hbut.below hb (Nat.le_refl _) hb.size, by rw [hstep.out]; exact kz, by rw [hstep.out]; exact hx4.but hbut (by omega)⟩, by simp [intOf]; omega⟩
    · obtain rfl : k = N := by omega
      have hl := cells25 (iterP f k)
      generalize iterP f k = g at *
      have hsa := hs.at0
      have hxa := hx.at0
      have heq := fun w => eq_same Tryd.underlying25 g w
      replace hl := Lib.hid hl
      replace hL := Lib.hid hL
      go_wp2_with (first
        | (refine list_load_mid _ _ _ 0 _ _ rfl rfl rfl hxa Tryd.underlying25 rfl (by rw [hl.out]; kernel_rfl) ?_)
        | (refine list_load_mid _ _ _ 0 _ _ rfl rfl rfl hsa Tryd.underlying23 rfl (by rw [hl.out]; kernel_rfl) ?_))
      go_ret
      exact ⟨rfl, hb⟩
end Go.Proofs.YtindmdokdcldaaaDoor
