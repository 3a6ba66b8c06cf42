/-
  A sponge read once, and again.
-/
import Derived.Test.YtfklkplnbmhddaaDoorKkL
namespace Go.Proofs.YtfklkplnbmhddaaDoor
open Go.RowKit Flow
set_option linter.unusedVariables false
set_option linter.unusedSimpArgs false

/-- Bytes were given; what the sponge is then. -/
def Gave2 (w : World) (b n d : Nat) (s : (Nat → Nat) × Nat) (e : Ending) (w' : World) : Prop := ∃ g, e = .returned (.slice (some ⟨g, 0, none⟩) n n) ∧ But b w w' ∧ w.heap.size ≤ g ∧ Oct w' g n (sqB s) ∧ Sta w' b 91 (spt (sqS s n).2 (d : Int) true) (sqS s n).1
def finD (f : Nat → Nat) (at' d : Nat) : (Nat → Nat) × Nat := (finF d (f, at'), 0)
set_option maxHeartbeats 4000000 in
theorem read1_ok (b : Nat) (hb1 : 1 < b) (f : Nat → Nat) (at' d : Nat) (hd : d < 256) (hG : Good (f, at')) (m : Int) (n : Nat) (hm0 : 0 ≤ m) (hmn : min m 65536 = (n : Int)) (w : World) (h : Sta w b 91 (spt at' (d : Int) false) f) (hT : Tabs w) :
    Calls Tryd.prog 27 #[.pointer (some ⟨b, 0, none⟩), .int .i64 m] w (Gave2 w b n d (finD f at' d)) := by
  have c27 := h.tail (i := 2) (v := .bool false) rfl
  have hF := Lib.hid (finish_ok b hb1 f at' d hd hG w h hT)
  have hG2 : Good (finD f at' d) := ⟨finF_lim hG hd, Nat.zero_le _⟩
  change Hid (Calls Tryd.prog 39 _ _ (Sponged w b (finD f at' d).1 (finD f at' d).2 (d : Int) true)) at hF
  generalize finD f at' d = s0 at *
  have hbl := h.lt
  have n0 : (0 : Int) ≤ (n : Int) := by omega
  have n1 : (n : Int) ≤ 65536 := by omega
  have hmk := fun w => make_bytes n (by omega) w
  have hneg : decide (m < 0) = false := by rw [decide_eq_false_iff_not]; omega
  have hmin2 : (if (65536 : Int) < m then (65536 : Int) else m) = (n : Int) := by split <;> omega
  replace hG2 := Lib.hid hG2
  replace hT := Lib.hid hT
  replace hd := Lib.hid hd
  replace hm0 := Lib.hid hm0
  clear h
  go_enter Tryd.func27, Tryd.ntmps27
  go_wp2_with fail
  refine hF.out.mono ?_
  rintro e w1 ⟨rfl, hb1', hs1⟩
  clear hF c27
  go_upto_region 6 with (fail)
  have hs1l := hs1.lt
  have hgz : w.heap.size ≤ w1.heap.size := hb1'.size
  refine name_wp (fun w2 => But b w w2 ∧ Sta w2 b 91 (spt (sqS s0 0).2 (d : Int) true) (sqS s0 0).1 ∧ Oct w2 w1.heap.size n (part (sqB s0) (fun _ => 0) 0))
    ⟨but_alloc hb1' _, hs1.up ((Below.refl _ _).alloc (Nat.le_refl _) _), Oct.congr (h := fun _ => 0) (alloc_at rfl) fun i _ => part_zero (sqB s0) (fun _ => 0) i⟩ ?_
  clear hb1' hs1 hmk hmin2 hmn
  rintro w2 ⟨hb, hs, ho⟩
  generalize w1.heap.size = g at *
  have hgb : g ≠ b := by omega
  replace hgz := Lib.hid hgz
  go_wp2
  go_loopw [25] (fun i wr => ∃ k : Nat, k ≤ n ∧ i = .int .i64 (k : Int) ∧ But b w wr ∧ Sta wr b 91 (spt (sqS s0 k).2 (d : Int) true) (sqS s0 k).1 ∧ Oct wr g n (part (sqB s0) (fun _ => 0) k)) (fun i _ => n - (intOf i).toNat)
  case atStart => exact ⟨0, by omega, rfl, hb, hs, ho⟩
  case round =>
    clear hb hs ho
    obtain ⟨k, hk, rfl, hb, hs, ho⟩ := hrel
    by_cases hlt : k < n
    · have k0 : (0 : Int) ≤ (k : Int) := by omega
      have k1 : (k : Int) < (n : Int) := by omega
      have hgood := sqS_good hG2.out k
      have hnx : sqS s0 (k + 1) = nextF (sqS s0 k) := rfl
      have hout : sqB s0 k = outF (sqS s0 k) := rfl
      have hps : upd (part (sqB s0) (fun _ => 0) k) k (sqB s0 k) = part (sqB s0) (fun _ => 0) (k + 1) := funext fun i => part_step _ _ _ _
      rw [hout] at hps
      generalize sqS s0 k = s at *
      have hat := turnF_at hgood
      have hL := turnF_lim hgood.1
      have hA := turn_ok b hb1 s.1 s.2 (d : Int) true hgood.1 wr hs (hT.out.but hb hb1)
      change Calls Tryd.prog 37 _ _ (Sponged wr b (turnF s).1 (turnF s).2 (d : Int) true) at hA
      unfold outF at hps
      unfold nextF at hnx
      generalize (turnF s).1 = f1 at *
      generalize (turnF s).2 = a1 at *
      have a0 : (0 : Int) ≤ (a1 : Int) := by omega
      have a2 : (a1 : Int) < 168 := by omega
      have ea : (a1 : Int) + 1 = ((a1 + 1 : Nat) : Int) := by omega
      have hj : a1 / 8 < 25 := by omega
      have hFl := hL _ hj
      obtain ⟨Q, hQ⟩ : ∃ Q, f1 (a1 / 8) / 2 ^ (8 * (a1 % 8)) = Q := ⟨_, rfl⟩
      obtain ⟨R, hR⟩ : ∃ R, Q % 256 = R := ⟨_, rfl⟩
      rw [hQ, hR] at hps
      have eQ : ((f1 (a1 / 8) : Nat) : Int) / 2 ^ (8 * (a1 % 8)) = (Q : Int) := by rw [← hQ]; simp
      have eR : IntKind.u8.wrap (Q : Int) = (R : Int) := by rw [IntKind.wrap_u8', ← hR]; simp
      have eR2 : (Q : Int) % 256 = (R : Int) := by rw [← hR]; simp
      have q0 : (0 : Int) ≤ (Q : Int) := by omega
      replace hQ := Lib.hid hQ
      replace hR := Lib.hid hR
      replace hps := Lib.hid hps
      replace hnx := Lib.hid hnx
      replace ea := Lib.hid ea
      replace hA := Lib.hid hA
      replace hL := Lib.hid hL
      replace hFl := Lib.hid hFl
      replace hat := Lib.hid hat
      replace ho := Lib.hid ho
      clear hgood hs hout
      go_wp2_with fail
      refine hA.out.mono ?_
      rintro e w3 ⟨rfl, hb3, hs3⟩
      have ho3 := ho.out.but hb3 hgb
      replace hb := Turned.next hb hb3
      have c25 := hs3.tail (i := 0) (v := .int .i64 ((a1 : Nat) : Int)) rfl
      have c0 := hs3.cell hj
      clear hA hb3 ho
      go_upto_region 10 with (fail)
      refine wp_region_flow1 22 (by kernel_rfl) (by kernel_rfl) (by kernel_rfl) ?_
      apply Exists.intro
      refine ⟨fun ι _ φ hφ => ?_, fun wt hwt => ?_⟩
      · have b0 := hφ.cell c0
        have b1 := hφ.cell c25
        simp only [List.take_succ_cons, List.take_zero]
        repeat (go_big_quiet_step (fail))
        exact wpQuiet_nil rfl
      replace hb := but_below' hb hwt
      replace hs3 := hs3.up hwt
      replace ho3 := ho3.up hwt
      have r0 := ho3.cell hlt
      have r1 : wt.frozen? ⟨g, k, none⟩ = false := ho3.free
      have ho4 := ho3.set (k := k) R
      rw [hps.out] at ho4
      have hb4 := but_setNew (o := k) hb hgz.out (.int .u8 ((R : Nat) : Int))
      have hs4 : Sta (wt.setCell ⟨g, k, none⟩ (.int .u8 ((R : Nat) : Int))) b 91 (spt a1 (d : Int) true) f1 := hs3.far (fun e => hgb e.symm)
      clear hwt c0 c25 eQ eR eR2 hb hs3 ho3
      simp only [List.drop_succ_cons, List.drop_zero]
      go_upto_region 11 with (fail)
      generalize wt.setCell ⟨g, k, none⟩ (.int .u8 ((R : Nat) : Int)) = w5 at *
      clear r0 r1
      have d25 := hs4.tail (i := 0) (v := .int .i64 ((a1 : Nat) : Int)) rfl
      have d26 : w5.frozen? ⟨b, 25, none⟩ = false := hs4.free
      have hst := hs4.setTail (k := 0) (.int .i64 ((a1 + 1 : Nat) : Int))
      rw [← ea.out] at hst
      go_wp2
      exact ⟨⟨k + 1, by omega, by go_num, hb4.set _, by rw [hnx.out]; show Sta _ b 91 (spt (a1 + 1) (d : Int) true) _; unfold spt; rw [← ea.out]; exact hst, ho4.far hgb⟩, left_u (by assumption)⟩
    · obtain rfl : k = n := by omega
      have hfin := ho.congr fun i hi => part_all (sqB s0) (fun _ => 0) hi
      go_wp2
      go_ret
      exact ⟨g, rfl, hb, hgz.out, hfin, hs⟩
set_option maxHeartbeats 4000000 in
theorem read2_ok (b : Nat) (hb1 : 1 < b) (s0 : (Nat → Nat) × Nat) (d : Nat) (hd : d < 256) (hG2 : Good s0) (m : Int) (n : Nat) (hm0 : 0 ≤ m) (hmn : min m 65536 = (n : Int)) (w : World) (h : Sta w b 91 (spt s0.2 (d : Int) true) s0.1) (hT : Tabs w) :
    Calls Tryd.prog 27 #[.pointer (some ⟨b, 0, none⟩), .int .i64 m] w (Gave2 w b n d s0) := by
  have c27 := h.tail (i := 2) (v := .bool true) rfl
  have hbl := h.lt
  have n0 : (0 : Int) ≤ (n : Int) := by omega
  have n1 : (n : Int) ≤ 65536 := by omega
  have hmk := fun w => make_bytes n (by omega) w
  have hneg : decide (m < 0) = false := by rw [decide_eq_false_iff_not]; omega
  have hmin2 : (if (65536 : Int) < m then (65536 : Int) else m) = (n : Int) := by split <;> omega
  replace hG2 := Lib.hid hG2
  replace hT := Lib.hid hT
  replace hd := Lib.hid hd
  replace hm0 := Lib.hid hm0
  go_enter Tryd.func27, Tryd.ntmps27
  go_upto_region 5 with (fail)
  refine name_wp (fun w1 => But b w w1 ∧ Sta w1 b 91 (spt s0.2 (d : Int) true) s0.1) ⟨But.refl _ _, h⟩ ?_
  clear h
  rintro w1 ⟨hb1', hs1⟩
  clear c27
  go_upto_region 6 with (fail)
  have hs1l := hs1.lt
  have hgz : w.heap.size ≤ w1.heap.size := hb1'.size
  refine name_wp (fun w2 => But b w w2 ∧ Sta w2 b 91 (spt (sqS s0 0).2 (d : Int) true) (sqS s0 0).1 ∧ Oct w2 w1.heap.size n (part (sqB s0) (fun _ => 0) 0))
    ⟨but_alloc hb1' _, hs1.up ((Below.refl _ _).alloc (Nat.le_refl _) _), Oct.congr (h := fun _ => 0) (alloc_at rfl) fun i _ => part_zero (sqB s0) (fun _ => 0) i⟩ ?_
  clear hb1' hs1 hmk hmin2 hmn
  rintro w2 ⟨hb, hs, ho⟩
  generalize w1.heap.size = g at *
  have hgb : g ≠ b := by omega
  replace hgz := Lib.hid hgz
  go_wp2
  go_loopw [25] (fun i wr => ∃ k : Nat, k ≤ n ∧ i = .int .i64 (k : Int) ∧ But b w wr ∧ Sta wr b 91 (spt (sqS s0 k).2 (d : Int) true) (sqS s0 k).1 ∧ Oct wr g n (part (sqB s0) (fun _ => 0) k)) (fun i _ => n - (intOf i).toNat)
  case atStart => exact ⟨0, by omega, rfl, hb, hs, ho⟩
  case round =>
    clear hb hs ho
    obtain ⟨k, hk, rfl, hb, hs, ho⟩ := hrel
    by_cases hlt : k < n
    · have k0 : (0 : Int) ≤ (k : Int) := by omega
      have k1 : (k : Int) < (n : Int) := by omega
      have hgood := sqS_good hG2.out k
      have hnx : sqS s0 (k + 1) = nextF (sqS s0 k) := rfl
      have hout : sqB s0 k = outF (sqS s0 k) := rfl
      have hps : upd (part (sqB s0) (fun _ => 0) k) k (sqB s0 k) = part (sqB s0) (fun _ => 0) (k + 1) := funext fun i => part_step _ _ _ _
      rw [hout] at hps
      generalize sqS s0 k = s at *
      have hat := turnF_at hgood
      have hL := turnF_lim hgood.1
      have hA := turn_ok b hb1 s.1 s.2 (d : Int) true hgood.1 wr hs (hT.out.but hb hb1)
      change Calls Tryd.prog 37 _ _ (Sponged wr b (turnF s).1 (turnF s).2 (d : Int) true) at hA
      unfold outF at hps
      unfold nextF at hnx
      generalize (turnF s).1 = f1 at *
      generalize (turnF s).2 = a1 at *
      have a0 : (0 : Int) ≤ (a1 : Int) := by omega
      have a2 : (a1 : Int) < 168 := by omega
      have ea : (a1 : Int) + 1 = ((a1 + 1 : Nat) : Int) := by omega
      have hj : a1 / 8 < 25 := by omega
      have hFl := hL _ hj
      obtain ⟨Q, hQ⟩ : ∃ Q, f1 (a1 / 8) / 2 ^ (8 * (a1 % 8)) = Q := ⟨_, rfl⟩
      obtain ⟨R, hR⟩ : ∃ R, Q % 256 = R := ⟨_, rfl⟩
      rw [hQ, hR] at hps
      have eQ : ((f1 (a1 / 8) : Nat) : Int) / 2 ^ (8 * (a1 % 8)) = (Q : Int) := by rw [← hQ]; simp
      have eR : IntKind.u8.wrap (Q : Int) = (R : Int) := by rw [IntKind.wrap_u8', ← hR]; simp
      have eR2 : (Q : Int) % 256 = (R : Int) := by rw [← hR]; simp
      have q0 : (0 : Int) ≤ (Q : Int) := by omega
      replace hQ := Lib.hid hQ
      replace hR := Lib.hid hR
      replace hps := Lib.hid hps
      replace hnx := Lib.hid hnx
      replace ea := Lib.hid ea
      replace hA := Lib.hid hA
      replace hL := Lib.hid hL
      replace hFl := Lib.hid hFl
      replace hat := Lib.hid hat
      replace ho := Lib.hid ho
      clear hgood hs hout
      go_wp2_with fail
      refine hA.out.mono ?_
      rintro e w3 ⟨rfl, hb3, hs3⟩
      have ho3 := ho.out.but hb3 hgb
      replace hb := Turned.next hb hb3
      have c25 := hs3.tail (i := 0) (v := .int .i64 ((a1 : Nat) : Int)) rfl
      have c0 := hs3.cell hj
      clear hA hb3 ho
      go_upto_region 10 with (fail)
      refine wp_region_flow1 22 (by kernel_rfl) (by kernel_rfl) (by kernel_rfl) ?_
      apply Exists.intro
      refine ⟨fun ι _ φ hφ => ?_, fun wt hwt => ?_⟩
      · have b0 := hφ.cell c0
        have b1 := hφ.cell c25
        simp only [List.take_succ_cons, List.take_zero]
        repeat (go_big_quiet_step (fail))
        exact wpQuiet_nil rfl
      replace hb := but_below' hb hwt
      replace hs3 := hs3.up hwt
      replace ho3 := ho3.up hwt
      have r0 := ho3.cell hlt
      have r1 : wt.frozen? ⟨g, k, none⟩ = false := ho3.free
      have ho4 := ho3.set (k := k) R
      rw [hps.out] at ho4
      have hb4 := but_setNew (o := k) hb hgz.out (.int .u8 ((R : Nat) : Int))
      have hs4 : Sta (wt.setCell ⟨g, k, none⟩ (.int .u8 ((R : Nat) : Int))) b 91 (spt a1 (d : Int) true) f1 := hs3.far (fun e => hgb e.symm)
      clear hwt c0 c25 eQ eR eR2 hb hs3 ho3
      simp only [List.drop_succ_cons, List.drop_zero]
      go_upto_region 11 with (fail)
      generalize wt.setCell ⟨g, k, none⟩ (.int .u8 ((R : Nat) : Int)) = w5 at *
      clear r0 r1
      have d25 := hs4.tail (i := 0) (v := .int .i64 ((a1 : Nat) : Int)) rfl
      have d26 : w5.frozen? ⟨b, 25, none⟩ = false := hs4.free
      have hst := hs4.setTail (k := 0) (.int .i64 ((a1 + 1 : Nat) : Int))
      rw [← ea.out] at hst
      go_wp2
      exact ⟨⟨k + 1, by omega, by go_num, hb4.set _, by rw [hnx.out]; show Sta _ b 91 (spt (a1 + 1) (d : Int) true) _; unfold spt; rw [← ea.out]; exact hst, ho4.far hgb⟩, left_u (by assumption)⟩
    · obtain rfl : k = n := by omega
      have hfin := ho.congr fun i hi => part_all (sqB s0) (fun _ => 0) hi
      go_wp2
      go_ret
      exact ⟨g, rfl, hb, hgz.out, hfin, hs⟩
end Go.Proofs.YtfklkplnbmhddaaDoor
