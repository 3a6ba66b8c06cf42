/-
  The document's oracle read.
-/
import Derived.Test.YtfklkplnbmhddaaDoorXoZ
namespace Go.Proofs.YtfklkplnbmhddaaDoor
open Go.RowKit Flow Go.Maps F
set_option linter.unusedVariables false
set_option linter.unusedSimpArgs false

set_option maxRecDepth 20000 in
set_option maxHeartbeats 8000000 in
theorem oread_ok {w : World} {B o lb lc : Nat} {own : Nat → Option Role} {d : List Int} {A : Option Addr} {c : Nat} (N k : Nat) (h : RefO w B o lb lc own d A c (k * N)) (hN0 : 0 < N) (hN : N ≤ 16) (hk : k ≤ 10000) (hl : d.length ≤ 100000) :
    Calls Tryd.prog 20 #[.pointer (some ⟨o, 0, none⟩), .int .i64 0, .int .i64 ((k * N : Nat) : Int), .int .i64 (N : Int)] w fun e w' => ∃ A' cap own', e = .returned (.slice A' N cap) ∧ RefO w' B o lb lc own' d A c ((k + 1) * N) ∧ Turn own own' w w' ∧ BytesAt w' A' (chk d N k) := by
  have hkN : k * N ≤ 10000 * 16 := Nat.mul_le_mul hk hN
  obtain ⟨S, hS⟩ : ∃ S, k * N = S := ⟨_, rfl⟩
  obtain ⟨T, hT⟩ : ∃ T, S + N = T := ⟨_, rfl⟩
  have hkT : (k + 1) * N = T := by rw [Nat.succ_mul, hS, hT]
  rw [hS] at h hkN ⊢
  rw [hkT]
  have zT : IntKind.i64.wrap ((S : Int) + (N : Int)) = (T : Int) := wrap_nat (by omega) (by omega)
  obtain ⟨i0, hinf, hz0, hz1, hz2⟩ := info_parts info_byte
  have hBo := h.hown o _ h.rs
  have hTb : T ≤ 200000 := by omega
  replace hS := Lib.hid hS
  replace hT := Lib.hid hT
  replace hkT := Lib.hid hkT
  replace hBo := Lib.hid hBo
  go_enter Tryd.func20, Tryd.ntmps20
  go_wp2
  go_loopw [9] (fun _ wr => ∃ (j : Nat) (own1 : Nat → Option Role), S ≤ j ∧ j ≤ T ∧ RefO wr B o lb lc own1 d A c j ∧ Turn own own1 w wr) (fun _ wr => T - atOf o wr)
  case atStart => exact ⟨S, own, Nat.le_refl _, by have := hT.out; omega, h, Turn.refl _ _⟩
  case round =>
    clear h
    obtain ⟨j, own1, hSj, hjT, hR, hTu⟩ := hrel
    obtain ⟨c0, c1, c2, f0, f1, bA, bc, cb⟩ := hR.cells
    have hat := Lib.hid (atOf_is c1)
    by_cases hlt : j < T
    · have b1 : decide ((j : Int) < (T : Int)) = true := by rw [decide_eq_true_eq]; omega
      replace hR := Lib.hid hR
      replace hTu := Lib.hid hTu
      go_upto_region 3 with (fail)
      go_quiet (fail)
      go_upto_if 32 with (fail)
      refine name_wp (fun w2 => Below wr.heap.size wr w2) (below_drewM _ _) ?_
      intro w2 hb2
      have hR2 := hR.out.below hb2
      have hTu2 := hTu.out.trans (Turn.of_below (o := own1) hb2)
      clear hR hTu c0 c1 c2 f0 f1 cb
      obtain ⟨X, hX⟩ : ∃ X, d.getD j 0 = X := ⟨_, rfl⟩
      replace hX := Lib.hid hX
      go_cut [9] (fun s w' => s = .int .u8 X ∧ Below w2.heap.size w2 w')
      case first =>
        obtain ⟨c0, c1, c2, f0, f1, bA2, bc2, cb⟩ := hR2.cells
        obtain ⟨bb, g1, g2, g3⟩ := hR2.hd
        by_cases hjd : j < d.length
        · have b2 : decide ((j : Int) < (d.length : Int)) = true := by rw [decide_eq_true_eq]; omega
          have j0 : (0 : Int) ≤ (j : Int) := by omega
          have j1 : (j : Int) < (d.length : Int) := by omega
          obtain ⟨ad, rfl⟩ : ∃ ad, A = some ad := by
            cases A with
            | none => have := (g3.none rfl).1; omega
            | some ad => exact ⟨ad, rfl⟩
          have hcell := g3.lies ad rfl j (.int .u8 X) (by rw [← hX.out]; simp [hjd])
          replace hR2 := Lib.hid hR2
          clear f0 f1 cb g3 g1
          go_upto_region 4 with (fail)
          go_quiet (fail)
          go_wp2
          go_meet
          exact ⟨rfl, below_drewM _ _⟩
        · have b2 : decide ((j : Int) < (d.length : Int)) = false := by rw [decide_eq_false_iff_not]; omega
          have e0 : X = 0 := by rw [← hX.out, List.getD_eq_getElem?_getD, List.getElem?_eq_none (by omega)]; rfl
          replace hR2 := Lib.hid hR2
          replace e0 := Lib.hid e0
          clear f0 f1 cb g3 g1
          go_wp2
          go_meet
          exact ⟨by rw [e0.out], Below.refl _ _⟩
      case rest =>
        obtain ⟨rfl, hb3⟩ := hcut
        have hR3 := hR2.below hb3
        have hTu3 := hTu2.trans (Turn.of_below (o := own1) hb3)
        clear hR2 hTu2 hb3 hb2
        obtain ⟨c0, c1, c2, f0, f1, bA3, bc3, cb⟩ := hR3.cells
        have f01 := f0 1
        obtain ⟨J1, hJ1⟩ : ∃ J1, j + 1 = J1 := ⟨_, rfl⟩
        have zj : IntKind.i64.wrap ((j : Int) + 1) = (J1 : Int) := wrap_nat (by omega) (by omega)
        have ks := store1 hR3.hs (o := 1) (v := .int .i64 (J1 : Int))
        replace ks : (wc.setCell ⟨o, 1, none⟩ (.int .i64 (J1 : Int))).heap[o]? = some (.cells #[.slice A d.length c, .int .i64 (J1 : Int), .slice (some ⟨lb, 0, none⟩) 1 lc] 54 (0, 0)) := ks
        have hlo : lb ≠ o := fun e => by have := hR3.rl; rw [e, hR3.rs] at this; cases this
        obtain ⟨cur, bv, hl1, hl2, hl3, hl4⟩ := hR3.hl
        have kl : (wc.setCell ⟨o, 1, none⟩ (.int .i64 (J1 : Int))).heap[lb]? = some (.cells cur 87 (0, 0)) := (Below.heap_setCell _ _ _ _ hlo).trans hl1
        have kr := row_keep hl3 (w' := wc.setCell ⟨o, 1, none⟩ (.int .i64 (J1 : Int))) fun g hg => Below.heap_setCell _ _ _ _ (fun e => by have := hl4 g hg; rw [e, hR3.rs] at this; cases this)
        obtain ⟨bb, g1, g2, g3⟩ := hR3.hd
        have kd := News.far g3 g1 (w' := wc.setCell ⟨o, 1, none⟩ (.int .i64 (J1 : Int))) (Below.heap_setCell _ _ _ _ (by have := (hR3.hown o _ hR3.rs).1; show bb ≠ o; omega))
        have hz4 : (wc.setCell ⟨o, 1, none⟩ (.int .i64 (J1 : Int))).heap.size = wc.heap.size := by simp [World.setCell]
        have ko : ∀ k r, own1 k = some r → B ≤ k ∧ k < (wc.setCell ⟨o, 1, none⟩ (.int .i64 (J1 : Int))).heap.size := fun k r hk => by rw [hz4]; exact hR3.hown k r hk
        have hTu4 : Turn own own1 w (wc.setCell ⟨o, 1, none⟩ (.int .i64 (J1 : Int))) := hTu3.trans ⟨rfl, rfl, rfl, Nat.le_of_eq hz4.symm, fun k hk hn => ⟨Below.heap_setCell _ _ _ _ (fun e => by rw [e, hR3.rs] at hn; cases hn), hn⟩⟩
        have krs := hR3.rs
        have krl := hR3.rl
        have hps := pull_succ d j
        rw [headD_getD, show (d.drop j).getD 0 0 = d.getD j 0 by simp [List.getD_eq_getElem?_getD, List.getElem?_drop], hX.out] at hps
        replace hps := Lib.hid hps
        replace hlo := Lib.hid hlo
        replace hl2 := Lib.hid hl2
        replace hl4 := Lib.hid hl4
        replace krs := Lib.hid krs
        replace krl := Lib.hid krl
        replace hJ1 := Lib.hid hJ1
        replace ks := Lib.hid ks
        replace kl := Lib.hid kl
        replace kr := Lib.hid kr
        replace kd := Lib.hid kd
        replace ko := Lib.hid ko
        replace hTu4 := Lib.hid hTu4
        clear hl1 hl3 g3 hz4 hTu3 hR3 f1 cb
        go_upto_region 6 with (fail)
        generalize wc.setCell ⟨o, 1, none⟩ (.int .i64 (J1 : Int)) = w4 at *
        clear c0 c1 c2 f0 f01
        refine segS_start (gb := fun k => k = o ∨ k = lb) 18 (by kernel_rfl) (by decide) ?_
        intro v0 hv0
        replace ks := keeps hv0 ks.out
        replace kl := keeps hv0 kl.out
        replace kr := owns_up kr.out hv0
        replace kd := kd.out.up hv0
        replace hTu4 := Lib.hid (hTu4.out.trans (Turn.of_below (o := own1) hv0))
        have hsz0 := hv0.size
        replace ko := Lib.hid (fun k r (hk : own1 k = some r) => (⟨(ko.out k r hk).1, Nat.lt_of_lt_of_le (ko.out k r hk).2 hsz0⟩ : B ≤ k ∧ k < v0.heap.size))
        clear hv0 hsz0
        refine segS_batch 4 [0, 1, 2, 3, 4, 5, 6, 7, 8, 9, 10, 11, 12, 13] (by kernel_rfl) rfl (by kernel_rfl) (by kernel_rfl) (by kernel_rfl) ?_
        apply Exists.intro
        refine ⟨fun ι _ φ hφ => ?_, fun v2 hv2 => ?_⟩
        · have a2 : ∀ i, (φ i).cell? ⟨o, 2, none⟩ = some (.slice (some ⟨lb, 0, none⟩) 1 lc) := fun i => by
            have := (hφ.old i).keeps ks (.inl rfl)
            simp [World.cell?, this]
          have a3 : ∀ i, (φ i).cell? ⟨lb, 1, none⟩ = some bv := fun i => by
            have := (hφ.old i).keeps kl (.inr rfl)
            have h2 := hl2.out
            simp [World.cell?, this, h2]
          iterate 14 (refine pick_step rfl ?_; go_big_quiet_step (fail))
          exact pick_end
        replace ks := keeps hv2 ks
        replace kl := keeps hv2 kl
        replace kr := owns_up kr hv2
        replace kd := kd.up hv2
        replace hTu4 := Lib.hid (hTu4.out.trans (Turn.of_below (o := own1) hv2))
        have hsz2 := hv2.size
        replace ko := Lib.hid (fun k r (hk : own1 k = some r) => (⟨(ko.out k r hk).1, Nat.lt_of_lt_of_le (ko.out k r hk).2 hsz2⟩ : B ≤ k ∧ k < v2.heap.size))
        clear hv2 hsz2
        refine segS_one 14 _ (by decide) rfl (by kernel_rfl) ?_
        intro v3 K hv3 hK
        have hbB := hv3.trans (((Below.refl v3.heap.size v3).alloc (Nat.le_refl _) (.cells #[.int .u8 X] 5 (0, 0))).mono hv3.size)
        have knw := news_alloc v3 [.int .u8 X] 5 (0, 0) 1
        replace hK := Lib.hid hK
        go_simp
        refine hK.out _ _ (HeldS.of_below ((Below.refl _ _).alloc (Nat.le_refl _) _)) ?_
        clear hK K
        generalize hv4 : v3.alloc (.cells #[.int .u8 X] 5 (0, 0)) = v4 at *
        replace ks := keeps hbB ks
        replace kl := keeps hbB kl
        replace kr := owns_up kr hbB
        replace kd := kd.up hbB
        replace hTu4 := Lib.hid (hTu4.out.trans (Turn.of_below (o := own1) hbB))
        have hsz4 := hbB.size
        replace ko := Lib.hid (fun k r (hk : own1 k = some r) => (⟨(ko.out k r hk).1, Nat.lt_of_lt_of_le (ko.out k r hk).2 hsz4⟩ : B ≤ k ∧ k < v4.heap.size))
        generalize v3.heap.size = pz at *
        clear hbB hsz4 hv3
        have hM : RefM v4 B o lb lc own1 d A c J1 cur bv j := ⟨ks, krs.out, krl.out, kl, ⟨_, hl2.out⟩, kr, hl4.out, ⟨bb, g1, g2, kd⟩, ko.out⟩
        clear ks kl kr kd ko hl4 krs krl
        refine segS_one 15 _ (by decide) rfl (by kernel_rfl) ?_
        intro v5 K hv5 hK
        replace hM := hM.below hv5
        replace hTu4 := hTu4.out.trans (Turn.of_below (o := own1) hv5)
        replace knw := knw.up hv5
        have hB5 : B ≤ v5.heap.size := by have := hM.hown o _ hM.rs; omega
        have t1 : j + 1 ≤ maxLen := by unfold maxLen; omega
        have t2 : (j + 1) * 1 ≤ 140737488355328 := by omega
        refine step_append_wh rfl _ _ 29 rfl B 5 i0 (.int .u8 0) 1 1 Tryd.underlying29 hinf hz0 hz1 hz2 rfl (by decide) _ _ _ rfl hM.hrow _ 1 1 _ rfl knw (one_bytes [X]) (by decide) t1 t2 hB5 ?_
        intro v8 w8 hown8 hg8 hwh8
        replace hK := Lib.hid hK
        replace hM := Lib.hid hM
        go_simp
        replace hM := hM.out
        refine hK.out _ _ (hM.held (r := none) hg8) ?_
        obtain ⟨hM8, hT8⟩ := hM.grown hg8 hown8 hX.out hwh8
        replace hTu4 := hTu4.trans hT8
        rw [hJ1.out] at hown8 hM8
        obtain ⟨A8, p8, rfl⟩ := owns_slice hown8
        clear hM hT8 hK K hown8 hg8 hwh8 knw hB5 t1 t2 hv5
        generalize setOwn own1 (Value.slice A8 J1 p8).ownBlock .asked = own8 at *
        refine segS_batch 0 [16, 17] (by kernel_rfl) rfl (by kernel_rfl) (by kernel_rfl) (by kernel_rfl) ?_
        apply Exists.intro
        refine ⟨fun ι _ φ hφ => ?_, fun v9 hv9 => ?_⟩
        · iterate 2 (refine pick_step rfl ?_; go_big_quiet_step (fail))
          exact pick_end
        replace hM8 := hM8.below hv9
        replace hTu4 := hTu4.trans (Turn.of_below (o := own8) hv9)
        clear hv9
        refine segS_tail (by kernel_rfl) ?_
        intro v10 hv10
        replace hM8 := hM8.below hv10
        replace hTu4 := hTu4.trans (Turn.of_below (o := own8) hv10)
        clear hv10
        obtain ⟨-, -, -, -, f8, x8, c8⟩ := hM8.cells
        have f81 := f8 1
        obtain ⟨hR9, hT9⟩ := hM8.store
        replace hTu4 := hTu4.trans hT9
        clear f8 hT9
        simp only [List.drop_succ_cons, List.drop_zero]
        replace hM8 := Lib.hid hM8
        replace hR9 := Lib.hid hR9
        replace hTu4 := Lib.hid hTu4
        go_wp2
        refine calm_normal ?_
        go_wp2
        refine ⟨⟨J1, own8, by have := hJ1.out; omega, by have := hJ1.out; omega, hR9.out, hTu4.out⟩, ?_⟩
        obtain ⟨-, d1, -⟩ := hR9.out.cells
        rw [hat.out, atOf_is d1]
        have := hJ1.out
        omega
    · obtain rfl : T = j := by omega
      have b1 : decide ((T : Int) < (T : Int)) = false := by simp
      have s1 : (0 : Int) ≤ (S : Int) := by omega
      have s2 : (S : Int) ≤ (T : Int) := by omega
      obtain ⟨cur, bv, hl1, hl2, hl3, hl4⟩ := hR.hl
      have hT0 : 0 < T := by have := hT.out; omega
      obtain ⟨g, p, rfl⟩ := owns_some hl3 hT0
      have hcap : T ≤ p := by
        rcases hl3.2 with ⟨e, -⟩ | ⟨g', cap, cur', e, -, -, hcm, -⟩
        · cases e
        · cases e; exact hcm
      obtain ⟨-, -, -, -, -, bA', bc', cb'⟩ := hR.cells
      have cbx : wr.cell? ⟨lb, 1, none⟩ = some (.slice (some ⟨g, 0, none⟩) T p) := by simp [World.cell?, hl1, hl2]
      have s3 : (T : Int) ≤ (p : Int) := by omega
      clear cb cb'
      replace hR := Lib.hid hR
      replace hTu := Lib.hid hTu
      replace hl1 := Lib.hid hl1
      replace hl2 := Lib.hid hl2
      replace hl3 := Lib.hid hl3
      replace hl4 := Lib.hid hl4
      have hTN : T - S = N := by have := hT.out; omega
      have hby : BytesAt wr (some ⟨g, S, none⟩) (chk d N k) := by
        intro i hi
        rw [chk_len] at hi
        have hc := hl3.out.cells (g := g) rfl (S + i) (.int .u8 ((pull d T).getD (S + i) 0)) (by
          rw [List.getElem?_map, List.getD_eq_getElem?_getD, List.getElem?_eq_getElem (by rw [pull_len]; omega)]
          rfl)
        rw [Addr.add_mid, Nat.zero_add] at hc
        refine ⟨g, S, rfl, ?_⟩
        rw [hc]
        have e1 : (pull d T).getD (S + i) 0 = d.getD (S + i) 0 := by
          unfold pull
          rw [List.getD_eq_getElem?_getD, List.getElem?_map, List.getElem?_range (by omega)]
          rfl
        have e2 : (chk d N k).getD i 0 = d.getD (S + i) 0 := by
          unfold chk pull
          rw [hS.out, List.getD_eq_getElem?_getD, List.getElem?_map, List.getElem?_range hi]
          simp [List.getD_eq_getElem?_getD, List.getElem?_drop]
        rw [e1, e2]
      go_wp2
      go_ret
      exact ⟨_, _, _, rfl, hR.out, hTu.out, hby⟩
end Go.Proofs.YtfklkplnbmhddaaDoor
