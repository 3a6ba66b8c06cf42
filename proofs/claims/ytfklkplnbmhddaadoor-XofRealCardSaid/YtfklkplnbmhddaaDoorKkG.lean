/-
  All rounds, as they are meant.
-/
import Derived.Test.YtfklkplnbmhddaaDoorKkF
namespace Go.Proofs.YtfklkplnbmhddaaDoor
open Go.RowKit Flow
set_option linter.unusedVariables false
set_option linter.unusedSimpArgs false

set_option maxHeartbeats 4000000 in
theorem refPerm_ok (f : Nat → Nat) (hf : Lim f) (w : World) : Calls Tryd.prog 31 #[.agg (arr f 25).toArray] w fun e w' => e = .returned (.agg (arr (permP f 12) 25).toArray) ∧ Below w.heap.size w w' := by
  replace hf := Lib.hid hf
  go_enter Tryd.func31, Tryd.ntmps31
  go_upto_region 1 with (fail)
  refine name_wp (fun w1 => Below w.heap.size w w1 ∧ Nums w1 w.heap.size 79 25 (permP f 0) ∧ Nums w1 (w.heap.size + 1) 79 25 zero)
    ⟨((Below.refl _ _).alloc (Nat.le_refl _) _).alloc (by simp) _, alloc_keeps (alloc_at rfl), alloc_at (by simp)⟩ ?_
  rintro w1 ⟨hb, hs, hz⟩
  go_wp2
  go_loopw [3] (fun i wr => ∃ k : Nat, k ≤ 12 ∧ i = .int .i64 ((12 + k : Nat) : Int) ∧ Below w.heap.size w wr ∧ Nums wr w.heap.size 79 25 (permP f k) ∧ Nums wr (w.heap.size + 1) 79 25 zero) (fun i _ => 24 - (intOf i).toNat)
  case atStart => exact ⟨0, by omega, rfl, hb, hs, hz⟩
  case round =>
    clear hb hs hz
    obtain ⟨k, hk, rfl, hb, hs, hz⟩ := hrel
    by_cases hlt : k < 12
    · obtain ⟨r, hr⟩ : ∃ r, 12 + k = r := ⟨_, rfl⟩
      have hL := permP_lim hf.out k
      have hO := fun w => one_ok (permP f k) hL k hlt w
      have hstep : arr (roundR (constsT.getD k 0) (permP f k)) 25 = arr (permP f (k + 1)) 25 := arr_congr fun i hi => round_eq _ _ hL i hi
      rw [hr, hstep] at hO
      rw [hr]
      have r0 : (0 : Int) ≤ (r : Int) := by omega
      have r1 : (r : Int) < 24 := by omega
      have er : (r : Int) + 1 = ((12 + (k + 1) : Nat) : Int) := by omega
      have hsa := hs.at0
      have hl := cells25 (permP f k)
      have hl2 := cells25 (permP f (k + 1))
      have hone := arr_one (permP f (k + 1)) 25
      replace hO := Lib.hid hO
      replace hl := Lib.hid hl
      replace hl2 := Lib.hid hl2
      replace hone := Lib.hid hone
      replace hL := Lib.hid hL
      replace hr := Lib.hid hr
      replace er := Lib.hid er
      clear hstep
      go_wp2_with (refine list_load_mid _ _ _ 0 _ _ rfl rfl rfl hsa Tryd.underlying79 rfl (by rw [hl.out]; kernel_rfl) ?_)
      refine call_then (hO.out _) ?_
      intro w2 hb2
      replace hb := below_next hb hb.size hb2
      replace hs := hs.up hb2
      replace hz := hz.up hb2
      unfold Nums at hs
      clear hb2 hsa
      go_wp2_with (refine list_store_whole _ _ _ _ (arr (permP f (k + 1)) 25) (arr (permP f k) 25) 79 rfl rfl rfl rfl hs (by rw [hl.out, hl2.out]) (by rw [hl2.out]; kernel_rfl) hone.out ?_; intro w3 hbut kz)
      exact ⟨⟨k + 1, by omega, by rw [er.out], hbut.below hb (Nat.le_refl _) hb.size, kz, hz.but hbut (by omega)⟩, by simp [intOf]; omega⟩
    · obtain rfl : k = 12 := by omega
      have hsa := hs.at0
      have hl := cells25 (permP f 12)
      have hone := arr_one (permP f 12) 25
      have hz2 := hz
      unfold Nums at hz2
      replace hl := Lib.hid hl
      replace hone := Lib.hid hone
      generalize hG : permP f 12 = G at *
      replace hG := Lib.hid hG
      go_wp2_with (first
        | (refine list_load_mid _ _ _ 0 _ _ rfl rfl rfl hsa Tryd.underlying79 rfl (by rw [hl.out]; kernel_rfl) ?_)
        | (refine list_store_whole _ _ _ _ (arr G 25) (arr zero 25) 79 rfl rfl rfl rfl hz2 (by rw [hl.out]; exact (arr_len _ _)) (by rw [hl.out]; kernel_rfl) hone.out ?_; intro w3 hbut kz))
      have hlv := loadVar_whole (P := Tryd.prog) _ (At0.of_block kz) Tryd.underlying79 rfl (by rw [hl.out]; kernel_rfl)
      exact bodyPost_ret (v := .agg (arr G 25).toArray) (res_cell1 Tryd.results31 rfl hlv) rfl ⟨by rw [hG.out], hbut.below hb (by omega) hb.size⟩
end Go.Proofs.YtfklkplnbmhddaaDoor
