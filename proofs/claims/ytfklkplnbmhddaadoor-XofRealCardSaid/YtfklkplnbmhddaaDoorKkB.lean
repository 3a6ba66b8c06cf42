/-
  Numbers turned and moved; the rows mixed; all rounds.
-/
import Derived.Test.YtfklkplnbmhddaaDoorKkTab
import Derived.Deep.DeepCutAuto
import Derived.Deep.CutBlock
import Derived.Deep.MidRow
namespace Go.Proofs.YtfklkplnbmhddaaDoor
open Go.RowKit Flow
set_option linter.unusedVariables false
set_option linter.unusedSimpArgs false

theorem cells25 (f : Nat → Nat) : (arr f 25).length = 25 := arr_len f 25
set_option maxHeartbeats 4000000 in
theorem turnMove_ok (b : Nat) (T : TypeId) (tl : List Value) (f : Nat → Nat) (hf : Lim f) (w : World) (h : Sta w b T tl f) (hT : Tabs w) : Calls Tryd.prog 52 #[.pointer (some ⟨b, 0, none⟩)] w (Turned w b T tl (movedF f 25)) := by
  have hlb := h.lt
  replace hf := Lib.hid hf
  replace hT := Lib.hid hT
  go_enter Tryd.func52, Tryd.ntmps52
  go_wp2
  have hb0 : Below w.heap.size w (w.alloc (.cells (arr (movedF f 0) 25).toArray 89 (0, 0))) := (Below.refl _ _).alloc (Nat.le_refl _) _
  have hs0 : Nums (w.alloc (.cells (arr (movedF f 0) 25).toArray 89 (0, 0))) w.heap.size 89 25 (movedF f 0) := alloc_at rfl
  go_loopw [8] (fun i wr => ∃ k : Nat, k ≤ 25 ∧ i = .int .i64 (k : Int) ∧ Below w.heap.size w wr ∧ Nums wr w.heap.size 89 25 (movedF f k)) (fun i _ => 25 - (intOf i).toNat)
  case atStart => exact ⟨0, by omega, rfl, hb0, hs0⟩
  case round =>
    clear hb0 hs0
    obtain ⟨k, hk, rfl, hb, hs⟩ := hrel
    by_cases hlt : k < 25
    · have k0 : (0 : Int) ≤ (k : Int) := by omega
      have k1 : (k : Int) < 25 := by omega
      have c0 := (h.up hb).cell hlt
      obtain ⟨x, hx⟩ : ∃ x, k % 5 = x := ⟨_, rfl⟩
      obtain ⟨y, hy⟩ : ∃ y, k / 5 = y := ⟨_, rfl⟩
      obtain ⟨z, hz⟩ : ∃ z, (2 * x + 3 * y) % 5 = z := ⟨_, rfl⟩
      obtain ⟨D, hD⟩ : ∃ D, y + 5 * z = D := ⟨_, rfl⟩
      have hd : dest k = D := by unfold dest; rw [hx, hy, hz, hD]
      have hd25 : D < 25 := by omega
      have hmv : upd (movedF f k) (dest k) (rl (f k) (turnsT.getD k 0)) = movedF f (k + 1) := rfl
      rw [hd] at hmv
      have ex : (k : Int) % 5 = (x : Int) := by omega
      have ey : (k : Int) / 5 = (y : Int) := by omega
      have ez : (2 * (x : Int) + 3 * (y : Int)) % 5 = (z : Int) := by omega
      have ed : (y : Int) + 5 * (z : Int) = (D : Int) := by omega
      have D0 : (0 : Int) ≤ (D : Int) := by omega
      have D1 : (D : Int) < 25 := by omega
      replace hD := Lib.hid hD
      have x0 : (0 : Int) ≤ (x : Int) := by omega
      have x1 : (x : Int) < 5 := by omega
      have y0 : (0 : Int) ≤ (y : Int) := by omega
      have y1 : (y : Int) < 5 := by omega
      have z0 : (0 : Int) ≤ (z : Int) := by omega
      have z1 : (z : Int) < 5 := by omega
      have htk := turns_le k
      replace ex := Lib.hid ex
      replace ey := Lib.hid ey
      replace ez := Lib.hid ez
      replace ed := Lib.hid ed
      replace hmv := Lib.hid hmv
      replace hx := Lib.hid hx
      replace hy := Lib.hid hy
      replace hz := Lib.hid hz
      replace hd := Lib.hid hd
      go_wp2
      go_quiet (fail)
      replace hb := below_drewN' hb nq
      have hs' : Nums (wr.drewN nq) w.heap.size 89 25 (movedF f k) := hs
      replace hs := hs'
      clear c0
      generalize wr.drewN nq = wq at *
      have htq := (hT.out.up hb).tn k hlt
      have hrot := Lib.hid (rotl_any (f k) (turnsT.getD k 0) (by omega) (hf.out k hlt))
      go_upto_region 5 with (fail)
      rw [ex.out, ey.out]
      replace ez := ez.out
      replace ed := ed.out
      go_wp2_with fail
      refine call_then (hrot.out _) ?_
      intro wt hwt
      replace hb := below_next hb hb.size hwt
      replace hs := hs.up hwt
      have d0 := hs.cell hd25
      have d1 : wt.frozen? ⟨w.heap.size, D, none⟩ = false := hs.free
      have hst := hs.set (k := D) (rl (f k) (turnsT.getD k 0))
      rw [hmv.out] at hst
      clear hwt htq hrot
      go_wp2
      exact ⟨⟨k + 1, by omega, by go_num, hb.setCell (p := ⟨w.heap.size, D, none⟩) (Nat.le_refl _) _, hst⟩, left_u (by assumption)⟩
    · obtain rfl : k = 25 := by omega
      have hsa := hs.at0
      have hnb := h.up hb
      have hone := arr_one (movedF f 25) 25
      have hl := cells25 (movedF f 25)
      have hl2 := cells25 f
      unfold Sta at hnb
      go_wp2_with (first
        | (refine list_load_mid _ _ _ 0 _ _ rfl rfl rfl hsa Tryd.underlying89 rfl (by rw [hl]; kernel_rfl) ?_)
        | (refine list_store_front _ _ _ _ (arr (movedF f 25) 25) (arr f 25) tl T rfl rfl rfl rfl hnb (by rw [hl, hl2]) (by rw [hl]; kernel_rfl) hone ?_; intro w3 hbut kz))
      go_end0
      refine ⟨rfl, ?_, kz⟩
      exact ⟨hbut.os.trans hb.os, hbut.tape.trans hb.tape, hbut.output.trans hb.output, Nat.le_trans hb.size hbut.size, fun q hq hne => (hbut.block q (Nat.lt_of_lt_of_le hq hb.size) hne).trans (hb.block q hq)⟩
end Go.Proofs.YtfklkplnbmhddaaDoor
