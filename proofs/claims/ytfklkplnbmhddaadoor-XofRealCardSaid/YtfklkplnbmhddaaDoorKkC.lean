/-
  The rows mixed; all rounds.
-/
import Derived.Test.YtfklkplnbmhddaaDoorKkB
namespace Go.Proofs.YtfklkplnbmhddaaDoor
open Go.RowKit Flow
set_option linter.unusedVariables false
set_option linter.unusedSimpArgs false

theorem an_nat {a b : Nat} (ha : a < 18446744073709551616) (hb : b < 18446744073709551616) : bits BinOp.andNot IntKind.u64 (a : Int) (b : Int) = ((anF a b : Nat) : Int) := u64_andNot_nat a b ha hb
theorem Turned.next {w w1 w2 : World} {b : Nat} (h1 : But b w w1) (h2 : But b w1 w2) : But b w w2 :=
  ⟨h2.os.trans h1.os, h2.tape.trans h1.tape, h2.output.trans h1.output, Nat.le_trans h1.size h2.size, fun q hq hne => (h2.block q (Nat.lt_of_lt_of_le hq h1.size) hne).trans (h1.block q hq hne)⟩
set_option maxHeartbeats 4000000 in
theorem mixRows_ok (b : Nat) (T : TypeId) (tl : List Value) (f : Nat → Nat) (hf : Lim f) (w : World) (h : Sta w b T tl f) : Calls Tryd.prog 53 #[.pointer (some ⟨b, 0, none⟩)] w (Turned w b T tl (mixR f)) := by
  have hlb := h.lt
  have hsa := h.at0
  have hone := arr_one f 25
  have hl := cells25 f
  replace hf := Lib.hid hf
  replace hone := Lib.hid hone
  replace hl := Lib.hid hl
  go_enter Tryd.func53, Tryd.ntmps53
  go_wp2_with (first
    | (refine list_load_mid _ _ _ 0 _ _ rfl rfl rfl hsa Tryd.underlying89 rfl (by rw [hl.out]; kernel_rfl) ?_)
    | (refine list_store_whole _ _ _ _ (arr f 25) (arr (fun _ => 0) 25) 89 rfl rfl rfl rfl (alloc_at rfl) (by rw [hl.out]; exact (arr_len _ _).symm ▸ rfl) (by rw [hl.out]; kernel_rfl) hone.out ?_; intro w3 hbut kz))
  have hb0 : Below w.heap.size w w3 := hbut.below ((Below.refl _ _).alloc (Nat.le_refl _) _) (Nat.le_refl _) (by simp)
  have ho0 : Nums w3 w.heap.size 89 25 f := kz
  clear hbut kz hsa
  go_loopw [8] (fun i wr => ∃ k : Nat, k ≤ 25 ∧ i = .int .i64 (k : Int) ∧ But b w wr ∧ Nums wr w.heap.size 89 25 f ∧ Sta wr b T tl (part (mixR f) f k)) (fun i _ => 25 - (intOf i).toNat)
  case atStart => exact ⟨0, by omega, rfl, But.of_below hb0, ho0, (h.up hb0).congr fun i _ => part_zero _ _ i⟩
  case round =>
    clear hb0 ho0
    obtain ⟨k, hk, rfl, hb, ho, hn⟩ := hrel
    by_cases hlt : k < 25
    · have k0 : (0 : Int) ≤ (k : Int) := by omega
      have k1 : (k : Int) < 25 := by omega
      obtain ⟨r, hr⟩ : ∃ r, k - k % 5 = r := ⟨_, rfl⟩
      obtain ⟨a2, ha2⟩ : ∃ m, k + 2 = m := ⟨_, rfl⟩
      obtain ⟨a1, ha1⟩ : ∃ m, k + 1 = m := ⟨_, rfl⟩
      obtain ⟨D2, hD2⟩ : ∃ m, r + a2 % 5 = m := ⟨_, rfl⟩
      obtain ⟨D1, hD1⟩ : ∃ m, r + a1 % 5 = m := ⟨_, rfl⟩
      have l2 : D2 < 25 := by omega
      have l1 : D1 < 25 := by omega
      have er : (k : Int) - (k : Int) % 5 = (r : Int) := by omega
      have z2 : IntKind.i64.wrap ((k : Int) + 2) = (a2 : Int) := by simp only [IntKind.wrap_i64]; omega
      have z1 : IntKind.i64.wrap ((k : Int) + 1) = (a1 : Int) := by simp only [IntKind.wrap_i64]; omega
      have y2 : IntKind.i64.wrap ((r : Int) + (a2 : Int) % 5) = (D2 : Int) := by simp only [IntKind.wrap_i64]; omega
      have y1 : IntKind.i64.wrap ((r : Int) + (a1 : Int) % 5) = (D1 : Int) := by simp only [IntKind.wrap_i64]; omega
      have p2 : (0 : Int) ≤ (D2 : Int) := by omega
      have p1 : (0 : Int) ≤ (D1 : Int) := by omega
      have q2 : (D2 : Int) < 25 := by omega
      have q1 : (D1 : Int) < 25 := by omega
      have s2 : (0 : Int) ≤ (a2 : Int) := by omega
      have s1 : (0 : Int) ≤ (a1 : Int) := by omega
      have c0 := hn.cell hlt
      rw [part_at] at c0
      have d2 := ho.cell l2
      have d1 := ho.cell l1
      have hx1 := an_nat (hf.out D2 l2) (hf.out D1 l1)
      have hx2 := xor_nat (hf.out k hlt) (an_lim (b := f D1) (hf.out D2 l2))
      have hv : f k ^^^ anF (f D2) (f D1) = mixR f k := by
        unfold mixR
        rw [ha2, ha1, hr, hD2, hD1]
      rw [hv] at hx2
      have hps : upd (part (mixR f) f k) k (mixR f k) = part (mixR f) f (k + 1) := funext fun i => part_step _ _ _ _
      replace hv := Lib.hid hv
      replace hr := Lib.hid hr
      replace ha2 := Lib.hid ha2
      replace ha1 := Lib.hid ha1
      replace hD2 := Lib.hid hD2
      replace hD1 := Lib.hid hD1
      replace hps := Lib.hid hps
      replace er := Lib.hid er
      generalize f D2 = F2 at *
      generalize f D1 = F1 at *
      generalize anF F2 F1 = R1 at *
      obtain ⟨X, hX⟩ : ∃ X, mixR f k = X := ⟨_, rfl⟩
      rw [hX] at hx2
      replace hX := Lib.hid hX
      replace z1 := Lib.hid z1
      replace z2 := Lib.hid z2
      go_upto_region 5 with (fail)
      rw [er.out]
      replace z1 := z1.out
      replace z2 := z2.out
      refine wp_region_flow1 23 (by kernel_rfl) (by kernel_rfl) (by kernel_rfl) ?_
      apply Exists.intro
      refine ⟨fun ι _ φ hφ => ?_, fun wt hwt => ?_⟩
      · have b0 := hφ.cell c0
        have b2 := hφ.cell d2
        have b1 := hφ.cell d1
        simp only [List.take_succ_cons, List.take_zero]
        repeat (go_big_quiet_step (fail))
        exact wpQuiet_nil rfl
      replace hb := but_below' hb hwt
      replace ho := ho.up hwt
      replace hn := hn.up hwt
      have d1' : wt.frozen? ⟨b, k, none⟩ = false := hn.free
      have c1' := hn.cell hlt
      have hst := hn.set (k := k) hlt X
      rw [← hX.out, hps.out, hX.out] at hst
      clear hwt z1 z2 y1 y2
      simp only [List.drop_succ_cons, List.drop_zero]
      go_wp2
      exact ⟨⟨k + 1, by omega, by go_num, hb.set _, ho.far (by omega), hst⟩, left_u (by assumption)⟩
    · obtain rfl : k = 25 := by omega
      go_wp2
      go_end0
      exact ⟨rfl, hb, hn.congr fun i hi => part_all _ _ hi⟩
set_option maxHeartbeats 4000000 in
theorem permute_ok (b : Nat) (hb1 : 1 < b) (T : TypeId) (tl : List Value) (f : Nat → Nat) (hf : Lim f) (w : World) (h : Sta w b T tl f) (hT : Tabs w) : Calls Tryd.prog 46 #[.pointer (some ⟨b, 0, none⟩)] w (Turned w b T tl (permP f 12)) := by
  replace hf := Lib.hid hf
  replace hT := Lib.hid hT
  go_enter Tryd.func46, Tryd.ntmps46
  go_wp2
  go_loopw [5] (fun i wr => ∃ k : Nat, k ≤ 12 ∧ i = .int .i64 (k : Int) ∧ But b w wr ∧ Sta wr b T tl (permP f k)) (fun i _ => 12 - (intOf i).toNat)
  case atStart => exact ⟨0, by omega, rfl, But.refl _ _, h⟩
  case round =>
    clear h
    obtain ⟨k, hk, rfl, hb, hn⟩ := hrel
    by_cases hlt : k < 12
    · have k0 : (0 : Int) ≤ (k : Int) := by omega
      have k1 : (k : Int) < 12 := by omega
      have hL := permP_lim hf.out k
      have hstep : permP f (k + 1) = roundP (constsT.getD k 0) (permP f k) := rfl
      have hcl := consts_lim k
      have hTr := hT.out.but hb hb1
      generalize permP f k = g at *
      obtain ⟨C0, hC0⟩ : ∃ C0, constsT.getD k 0 = C0 := ⟨_, rfl⟩
      have hL1 := mixC_lim hL
      have hL2 : Lim (movedF (mixC g) 25) := moved_lim hL1 25 (Nat.le_refl _)
      have hL3 := mixR_lim hL2
      have hA := Lib.hid (mixCols_ok b T tl g hL wr hn)
      replace hstep := Lib.hid hstep
      replace hTr := Lib.hid hTr
      replace hL1 := Lib.hid hL1
      replace hL2 := Lib.hid hL2
      replace hL3 := Lib.hid hL3
      replace hC0 := Lib.hid hC0
      replace hcl := Lib.hid hcl
      clear hL hn
      go_wp2_with fail
      refine hA.out.mono ?_
      rintro e w1 ⟨rfl, hb1', hn1⟩
      have hB := Lib.hid (turnMove_ok b T tl (mixC g) hL1.out w1 hn1 (hTr.out.but hb1' hb1))
      clear hA hn1
      go_wp2_with fail
      refine hB.out.mono ?_
      rintro e w2 ⟨rfl, hb2', hn2⟩
      have hC := Lib.hid (mixRows_ok b T tl (movedF (mixC g) 25) hL2.out w2 hn2)
      clear hB hn2
      go_wp2_with fail
      refine hC.out.mono ?_
      rintro e w3 ⟨rfl, hb3', hn3⟩
      clear hC
      have hb03 := Turned.next (Turned.next hb1' hb2') hb3'
      have hT3 := (hTr.out.but hb03 hb1).cn k hlt
      rw [hC0.out] at hT3
      replace hb := Turned.next hb hb03
      have hx := xor_nat (hL3.out 0 (by decide)) (show C0 < 18446744073709551616 by rw [← hC0.out]; exact hcl.out)
      have c0 := hn3.cell (show 0 < 25 by decide)
      have hfin : upd (mixR (movedF (mixC g) 25)) 0 (mixR (movedF (mixC g) 25) 0 ^^^ C0) = permP f (k + 1) := by
        rw [hstep.out, hC0.out]; rfl
      clear hb1' hb2' hb3' hb03
      replace hfin := Lib.hid hfin
      generalize mixR (movedF (mixC g) 25) = G at *
      obtain ⟨X, hX⟩ : ∃ X, G 0 ^^^ C0 = X := ⟨_, rfl⟩
      rw [hX] at hx
      replace hX := Lib.hid hX
      go_upto_region 7 with (fail)
      refine wp_region_flow1 10 (by kernel_rfl) (by kernel_rfl) (by kernel_rfl) ?_
      apply Exists.intro
      refine ⟨fun ι _ φ hφ => ?_, fun wt hwt => ?_⟩
      · have b0 := hφ.cell c0
        have b1 := hφ.cell hT3
        simp only [List.take_succ_cons, List.take_zero]
        repeat (go_big_quiet_step (fail))
        exact wpQuiet_nil rfl
      replace hb := but_below' hb hwt
      replace hn3 := hn3.up hwt
      have d1' : wt.frozen? ⟨b, 0, none⟩ = false := hn3.free
      have c1' := hn3.cell (show 0 < 25 by decide)
      have hst := hn3.set (k := 0) (by decide) X
      rw [← hX.out, hfin.out, hX.out] at hst
      clear hwt hT3 c0
      simp only [List.drop_succ_cons, List.drop_zero]
      go_wp2
      exact ⟨⟨k + 1, by omega, by go_num, hb.set _, hst⟩, left_u (by assumption)⟩
    · obtain rfl : k = 12 := by omega
      go_wp2
      go_end0
      exact ⟨rfl, hb, hn⟩
end Go.Proofs.YtfklkplnbmhddaaDoor
