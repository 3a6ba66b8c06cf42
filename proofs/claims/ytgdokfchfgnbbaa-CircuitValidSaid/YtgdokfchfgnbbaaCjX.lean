/-
  What is measured as a vector, as the document says: kind by kind.
-/
import Derived.Test.YtgdokfchfgnbbaaCjW
namespace Go.Proofs.Ytgdokfchfgnbbaa
open Go.RowKit Flow F
set_option linter.unusedVariables false
set_option linter.unusedSimpArgs false

/-- What the document's Encode answers. -/
def RencR (B : Bool) (L : List Int) (w : World) (e : Ending) (w' : World) : Prop := (B = true ∧ REncOut L w e w') ∨ (B = false ∧ REncBad 6 w e w')
theorem RencR.good {B : Bool} {L : List Int} {w : World} {e : Ending} {w' : World} (hB : B = true) (h : REncOut L w e w') : RencR B L w e w' := .inl ⟨hB, h⟩
theorem RencR.bad {B : Bool} {L : List Int} {w : World} {e : Ending} {w' : World} (hB : B = false) (h : REncBad 6 w e w') : RencR B L w e w' := .inr ⟨hB, h⟩
theorem info_word : (Try.prog.info? 43).map (fun i => (i.zero, i.size, i.bytes)) = some (some (.int .u64 0), 1, 8) := by kernel_rfl
theorem fits_three {x : Ci} {zs : List Int} (h23 : x.k = 2 ∨ x.k = 3) : fitsB x zs = allLe (x.mostN : Int) zs := by
  unfold fitsB allLe
  rw [if_neg (by omega)]
  have : x.k ≠ 5 := by omega
  simp [this]
theorem flatw_snoc (b : Nat) {l : List Int} {k : Nat} (h : k < l.length) : (l.take (k + 1)).flatMap (fun z => bitsL z.toNat b) = (l.take k).flatMap (fun z => bitsL z.toNat b) ++ bitsL (l.getD k 0).toNat b := by
  rw [take_snocD h, List.flatMap_append]
  simp
set_option maxRecDepth 20000 in
set_option maxHeartbeats 4000000 in
theorem renc_bits (x : Ci) (h : x.Good) (h23 : x.k = 2 ∨ x.k = 3) (zs : List Int) (A : Option Addr) (N cp : Nat) (hl : zs.length = N) (hN : N = x.measuredN) (hz : WordsOK zs) (w : World) (hA : WordsAt w A zs) :
    Calls Try.prog 34 #[rvl x, .slice A N cp] w (RencR (fitsB x zs) (encL x zs) w) := by
  rw [fits_three h23, show encL x zs = zs.flatMap (fun z => bitsL z.toNat x.b.toNat) by unfold encL; rw [if_pos h23]]
  have hb2 := h.fits.b h23
  have hml : x.mostN = 2 ^ x.b.toNat - 1 := by unfold Ci.mostN; rw [if_pos h23]
  rw [hml]
  have hN64 : N ≤ 64 := by
    rw [hN]; unfold Ci.measuredN Ci.outN
    have := h.fits.l
    split
    · omega
    · split <;> omega
  have hO := rout_any x h
  have hz' := h.code
  unfold Ci.measuredN at hN
  obtain ⟨k, f, b, l, W, c⟩ := x
  have hC := fun w => rcheck_any k f b l W c w
  unfold rvl NumBy at *
  rw [hz'] at hC
  simp only at hb2 h23 hN
  rw [if_neg (by omega)] at hN
  rw [← hN] at hO
  obtain ⟨nb, rfl⟩ := Int.eq_ofNat_of_zero_le (show 0 ≤ b by omega)
  simp only [Int.toNat_natCast]
  have hp1 := Nat.one_le_two_pow (n := nb)
  have hp := pow_le32 (b := nb) (by omega)
  have hMc : ((2 ^ nb - 1 : Nat) : Int) = ((2 ^ nb : Nat) : Int) - 1 := by omega
  have e4 : (k == 4) = false := by simp; omega
  have e5 : (k == 5) = false := by simp; omega
  have hkk : (k == 2) = true ∨ ((k == 2) = false ∧ (k == 3) = true) := by
    rcases h23 with rfl | rfl
    · exact .inl rfl
    · exact .inr ⟨rfl, rfl⟩
  obtain ⟨i0, hinf, hz0, hz1, hz2⟩ := info_parts info_word
  replace hinf := Lib.hid hinf
  replace hC := Lib.hid hC
  replace hO := Lib.hid hO
  replace hA := Lib.hid hA
  replace hl := Lib.hid hl
  replace hz := Lib.hid hz
  replace hMc := Lib.hid hMc
  replace hp1 := Lib.hid hp1
  replace hp := Lib.hid hp
  clear h h23 hz' hN hml
  go_enter Try.func34, Try.ntmps34
  go_upto_region 1 with (fail)
  refine name_wp (fun w1 => Below w.heap.size w w1 ∧ w1.heap[w.heap.size]? = some (.cells #[.int .i64 k, .int .i64 f, .int .i64 (nb : Int), .int .i64 l, .int .i64 W, .int .i64 c] 32 (0, 0))) ⟨(Below.refl _ _).alloc (Nat.le_refl _) _, alloc_at rfl⟩ ?_
  rintro w1 ⟨hb, k0⟩
  obtain ⟨c0, c1, c2, c3, c4, c5⟩ := blk6 k0
  go_wp2_with fail
  refine call_then (hC.out _) ?_
  intro w2 hb2
  replace hb := below_next hb hb.size hb2
  replace k0 := keeps hb2 k0
  clear hb2 c0 c1 c2 c3 c4 c5
  obtain ⟨c0, c1, c2, c3, c4, c5⟩ := blk6 k0
  go_wp2_with fail
  refine call_then (hO.out _) ?_
  intro w2 hb2
  replace hb := below_next hb hb.size hb2
  replace k0 := keeps hb2 k0
  clear hb2 c0 c1 c2 c3 c4 c5
  obtain ⟨c0, c1, c2, c3, c4, c5⟩ := blk6 k0
  clear hC hO
  go_wp2
  have hBw := hb.size
  have hpB := lt_of_get k0
  obtain ⟨B0, hB0⟩ : ∃ B0, B0 = w2.heap.size := ⟨_, rfl⟩
  rw [← hB0] at hBw hpB
  have hBs : B0 ≤ w2.heap.size := Nat.le_of_eq hB0
  have hown : w2.ownsRow B0 43 1 (.slice none 0 0) 0 (wcells []) := World.ownsRow_nil _ _ _ _
  replace hBw := Lib.hid hBw
  replace hpB := Lib.hid hpB
  clear hB0 c0 c1 c2 c3 c4 c5
  go_loopw [10, 8] (fun i v wr => ∃ j : Nat, j ≤ N ∧ i = .int .i64 (j : Int) ∧ Below w.heap.size w wr ∧ wr.heap[w.heap.size]? = some (.cells #[.int .i64 k, .int .i64 f, .int .i64 (nb : Int), .int .i64 l, .int .i64 W, .int .i64 c] 32 (0, 0)) ∧ B0 ≤ wr.heap.size ∧ wr.ownsRow B0 43 1 v (j * nb) (wcells ((zs.take j).flatMap (fun z => bitsL z.toNat nb))) ∧ Hid (allLe ((2 ^ nb - 1 : Nat) : Int) (zs.take j) = true)) (fun i _ _ => N - (intOf i).toNat)
  case atStart => exact ⟨0, Nat.zero_le _, rfl, hb, k0, hBs, by rw [Nat.zero_mul]; exact hown, Lib.hid rfl⟩
  case round =>
    clear hb k0 hBs hown
    obtain ⟨j, hj, rfl, hb, k0, hBs, hown, hall⟩ := hrel
    obtain ⟨c0, c1, c2, c3, c4, c5⟩ := blk6 k0
    by_cases hlt : j < N
    · have j1 : (j : Int) < (N : Int) := by omega
      have j0 : (0 : Int) ≤ (j : Int) := by omega
      obtain ⟨p, o, rfl, hc⟩ := hA.out j (by rw [hl.out]; exact hlt)
      have hc2 := (hb.cell (World.block_lt_of_cell? _ _ hc)).trans hc
      have hx := hz.out.at_ (k := j) (by rw [hl.out]; exact hlt)
      have hsn := Lib.hid (flatw_snoc nb (l := zs) (k := j) (by rw [hl.out]; exact hlt))
      have hal := Lib.hid (show allLe ((2 ^ nb - 1 : Nat) : Int) (zs.take (j + 1)) = (allLe ((2 ^ nb - 1 : Nat) : Int) (zs.take j) && decide (zs.getD j 0 ≤ ((2 ^ nb - 1 : Nat) : Int))) by rw [take_snocD (by rw [hl.out]; exact hlt), allLe_snoc])
      have hbad := Lib.hid (fun hn => allLe_of_take (m := ((2 ^ nb - 1 : Nat) : Int)) (l := zs) (k := j) (by rw [hl.out]; exact hlt) hn)
      have hjb : j * nb ≤ 64 * 32 := Nat.mul_le_mul (by omega) (by omega)
      have hjn : (j + 1) * nb = j * nb + nb := Nat.succ_mul _ _
      generalize zs.getD j 0 = z at *
      obtain ⟨Z, rfl⟩ := Int.eq_ofNat_of_zero_le hx.1
      rw [Int.toNat_natCast] at hsn
      obtain ⟨P, hP⟩ : ∃ P, j * nb = P := ⟨_, rfl⟩
      rw [hP] at hown hjb hjn
      replace hjn := Lib.hid hjn
      replace hP := Lib.hid hP
      clear hc
      obtain ⟨F0, hF0⟩ : ∃ F0, (zs.take j).flatMap (fun z => bitsL z.toNat nb) = F0 := ⟨_, rfl⟩
      rw [hF0] at hown hsn
      replace hF0 := Lib.hid hF0
      have hown0 : wr.ownsRow B0 43 1 u8 (P + 0) (wcells (F0 ++ bitsL Z 0)) := by
        rw [show bitsL Z 0 = [] from rfl, List.append_nil]; exact hown
      rcases hkk with e2 | ⟨e2, e3⟩
      · go_wp2
        clear hown c0 c1 c2 c3 c4 c5 hc2
        go_loopw [14, 8, 11] (fun i v n wr => ∃ q V : Nat, q ≤ nb ∧ i = .int .i64 (q : Int) ∧ n = .int .u64 (V : Int) ∧ V < 18446744073709551616 ∧ Hid (V = Z / 2 ^ q) ∧ Below w.heap.size w wr ∧ wr.heap[w.heap.size]? = some (.cells #[.int .i64 k, .int .i64 f, .int .i64 (nb : Int), .int .i64 l, .int .i64 W, .int .i64 c] 32 (0, 0)) ∧ B0 ≤ wr.heap.size ∧ wr.ownsRow B0 43 1 v (P + q) (wcells (F0 ++ bitsL Z q))) (fun i _ _ _ => nb - (intOf i).toNat)
        case atStart => exact ⟨0, Z, Nat.zero_le _, rfl, rfl, by omega, Lib.hid (by rw [Nat.pow_zero, Nat.div_one]), hb, k0, hBs, hown0⟩
        case round =>
          clear hb k0 hBs hown0
          obtain ⟨q, V, hq, rfl, rfl, hV1, hV, hb, k0, hBs, hown⟩ := hrel
          obtain ⟨c0, c1, c2, c3, c4, c5⟩ := blk6 k0
          by_cases hltq : q < nb
          · have q1 : (q : Int) < (nb : Int) := by omega
            have q0 : (0 : Int) ≤ (q : Int) := by omega
            obtain ⟨Bt, hBt⟩ : ∃ Bt : Nat, V % 2 = Bt := ⟨_, rfl⟩
            have zb1 : (V : Int).tmod 2 = (Bt : Int) := by rw [← hBt]; rfl
            have zb2 : (V : Int) % 2 = (Bt : Int) := by omega
            obtain ⟨V2, hV2⟩ : ∃ V2 : Nat, V / 2 = V2 := ⟨_, rfl⟩
            have zv1 : (V : Int).tdiv 2 = (V2 : Int) := by rw [← hV2]; rfl
            have zv2 : (V : Int) / 2 = (V2 : Int) := by omega
            have zw1 : IntKind.u64.wrap (Bt : Int) = (Bt : Int) := by rw [IntKind.wrap_u64]; omega
            have zw2 : IntKind.u64.wrap (V2 : Int) = (V2 : Int) := by rw [IntKind.wrap_u64]; omega
            have hbs := Lib.hid (show wcells (F0 ++ bitsL Z (q + 1)) = wcells (F0 ++ bitsL Z q) ++ [.int .u64 (Bt : Int)] by
              rw [bitsL_snoc, ← List.append_assoc, wcells_append]
              have : bitN Z q = Bt := by rw [← hBt, hV.out]; rfl
              rw [this]
              rfl)
            have hV3 : Hid (V2 = Z / 2 ^ (q + 1)) := Lib.hid (by rw [← hV2, hV.out, Nat.div_div_eq_div_mul, Nat.pow_succ])
            have hV4 : V2 < 18446744073709551616 := by omega
            replace hBt := Lib.hid hBt
            replace hV2 := Lib.hid hV2
            have hown6 := Lib.hid (hown.alloc (.cells #[.int .u64 (Bt : Int)] 43 (0, 0)))
            have hb6 := Lib.hid (hb.alloc hb.size (.cells #[.int .u64 (Bt : Int)] 43 (0, 0)))
            have k6 := Lib.hid (alloc_keeps (o := .cells #[.int .u64 (Bt : Int)] 43 (0, 0)) k0)
            have hBs6 : B0 ≤ (wr.alloc (.cells #[.int .u64 (Bt : Int)] 43 (0, 0))).heap.size := Nat.le_trans hBs (by simp)
            have t1 : (P + q) + 1 ≤ maxLen := by unfold maxLen; omega
            have t2 : ((P + q) + 1) * 8 ≤ 140737488355328 := by omega
            clear hown hb k0 hBs
            go_wp2_with (at_builtin; refine wpList_append_own _ rfl _ _ 46 rfl B0 43 i0 (.int .u64 0) 1 8 Try.underlying46 hinf.out hz0 hz1 hz2 rfl (by decide) _ _ _ rfl hown6.out ⟨_, 0, none⟩ 1 1 [.int .u64 (Bt : Int)] rfl rfl (news_word (by simp)) (by simp [Value.oneCell']) t1 t2 hBs6 ?_; intro v1 w7 hown7 hg7 _; have hb7 := grownn_below hb6.out hBw.out hown6.out hg7; have k7 := (hg7.block w.heap.size (lt_of_get k6.out) (fun e => by have := (hown6.out.lt _ e.symm).1; have := hpB.out; omega)).trans k6.out; have hBs7 := Nat.le_trans hBs6 hg7.size; clear hg7)
            refine ⟨⟨q + 1, V2, by omega, by go_num, rfl, hV4, hV3, hb7, k7, hBs7, ?_⟩, by simp [intOf]; omega⟩
            rw [hbs.out]
            exact hown7
          · obtain rfl : nb = q := by omega
            have q1 : ¬ (nb : Int) < (nb : Int) := by omega
            by_cases hpos : 0 < V
            · have hn : ¬ ((Z : Int) ≤ ((2 ^ nb - 1 : Nat) : Int)) := by
                have h1 := hV.out
                intro h2
                have h3 : Z < 2 ^ nb := by have := hMc.out; have := hp1.out; omega
                rw [Nat.div_eq_of_lt h3] at h1
                omega
              have hbd := Lib.hid (hbad.out (by omega))
              have hp0 : (0 : Int) < (V : Int) := by omega
              clear hn
              go_wp2
              go_ret2
              exact .bad hbd.out ⟨rfl, hb⟩
            · obtain rfl : V = 0 := by omega
              have hall2 : Hid (allLe ((2 ^ nb - 1 : Nat) : Int) (zs.take (j + 1)) = true) := Lib.hid (by
                rw [hal.out, hall.out, Bool.true_and, decide_eq_true_eq]
                have h1 := hV.out
                have h2 := Nat.div_eq_zero_iff.1 h1.symm
                have := hMc.out
                have := hp1.out
                omega)
              have hown9 : wr.ownsRow B0 43 1 u8 ((j + 1) * nb) (wcells ((zs.take (j + 1)).flatMap (fun z => bitsL z.toNat nb))) := by
                rw [hjn.out, hsn.out]; exact hown
              replace hown9 := Lib.hid hown9
              clear hpos hown
              go_wp2
              exact ⟨⟨j + 1, by omega, by go_num, hb, k0, hBs, hown9.out, hall2⟩, by simp [intOf]; omega⟩
      · go_wp2
        clear hown c0 c1 c2 c3 c4 c5 hc2
        go_loopw [14, 8, 11] (fun i v n wr => ∃ q V : Nat, q ≤ nb ∧ i = .int .i64 (q : Int) ∧ n = .int .u64 (V : Int) ∧ V < 18446744073709551616 ∧ Hid (V = Z / 2 ^ q) ∧ Below w.heap.size w wr ∧ wr.heap[w.heap.size]? = some (.cells #[.int .i64 k, .int .i64 f, .int .i64 (nb : Int), .int .i64 l, .int .i64 W, .int .i64 c] 32 (0, 0)) ∧ B0 ≤ wr.heap.size ∧ wr.ownsRow B0 43 1 v (P + q) (wcells (F0 ++ bitsL Z q))) (fun i _ _ _ => nb - (intOf i).toNat)
        case atStart => exact ⟨0, Z, Nat.zero_le _, rfl, rfl, by omega, Lib.hid (by rw [Nat.pow_zero, Nat.div_one]), hb, k0, hBs, hown0⟩
        case round =>
          clear hb k0 hBs hown0
          obtain ⟨q, V, hq, rfl, rfl, hV1, hV, hb, k0, hBs, hown⟩ := hrel
          obtain ⟨c0, c1, c2, c3, c4, c5⟩ := blk6 k0
          by_cases hltq : q < nb
          · have q1 : (q : Int) < (nb : Int) := by omega
            have q0 : (0 : Int) ≤ (q : Int) := by omega
            obtain ⟨Bt, hBt⟩ : ∃ Bt : Nat, V % 2 = Bt := ⟨_, rfl⟩
            have zb1 : (V : Int).tmod 2 = (Bt : Int) := by rw [← hBt]; rfl
            have zb2 : (V : Int) % 2 = (Bt : Int) := by omega
            obtain ⟨V2, hV2⟩ : ∃ V2 : Nat, V / 2 = V2 := ⟨_, rfl⟩
            have zv1 : (V : Int).tdiv 2 = (V2 : Int) := by rw [← hV2]; rfl
            have zv2 : (V : Int) / 2 = (V2 : Int) := by omega
            have zw1 : IntKind.u64.wrap (Bt : Int) = (Bt : Int) := by rw [IntKind.wrap_u64]; omega
            have zw2 : IntKind.u64.wrap (V2 : Int) = (V2 : Int) := by rw [IntKind.wrap_u64]; omega
            have hbs := Lib.hid (show wcells (F0 ++ bitsL Z (q + 1)) = wcells (F0 ++ bitsL Z q) ++ [.int .u64 (Bt : Int)] by
              rw [bitsL_snoc, ← List.append_assoc, wcells_append]
              have : bitN Z q = Bt := by rw [← hBt, hV.out]; rfl
              rw [this]
              rfl)
            have hV3 : Hid (V2 = Z / 2 ^ (q + 1)) := Lib.hid (by rw [← hV2, hV.out, Nat.div_div_eq_div_mul, Nat.pow_succ])
            have hV4 : V2 < 18446744073709551616 := by omega
            replace hBt := Lib.hid hBt
            replace hV2 := Lib.hid hV2
            have hown6 := Lib.hid (hown.alloc (.cells #[.int .u64 (Bt : Int)] 43 (0, 0)))
            have hb6 := Lib.hid (hb.alloc hb.size (.cells #[.int .u64 (Bt : Int)] 43 (0, 0)))
            have k6 := Lib.hid (alloc_keeps (o := .cells #[.int .u64 (Bt : Int)] 43 (0, 0)) k0)
            have hBs6 : B0 ≤ (wr.alloc (.cells #[.int .u64 (Bt : Int)] 43 (0, 0))).heap.size := Nat.le_trans hBs (by simp)
            have t1 : (P + q) + 1 ≤ maxLen := by unfold maxLen; omega
            have t2 : ((P + q) + 1) * 8 ≤ 140737488355328 := by omega
            clear hown hb k0 hBs
            go_wp2_with (at_builtin; refine wpList_append_own _ rfl _ _ 46 rfl B0 43 i0 (.int .u64 0) 1 8 Try.underlying46 hinf.out hz0 hz1 hz2 rfl (by decide) _ _ _ rfl hown6.out ⟨_, 0, none⟩ 1 1 [.int .u64 (Bt : Int)] rfl rfl (news_word (by simp)) (by simp [Value.oneCell']) t1 t2 hBs6 ?_; intro v1 w7 hown7 hg7 _; have hb7 := grownn_below hb6.out hBw.out hown6.out hg7; have k7 := (hg7.block w.heap.size (lt_of_get k6.out) (fun e => by have := (hown6.out.lt _ e.symm).1; have := hpB.out; omega)).trans k6.out; have hBs7 := Nat.le_trans hBs6 hg7.size; clear hg7)
            refine ⟨⟨q + 1, V2, by omega, by go_num, rfl, hV4, hV3, hb7, k7, hBs7, ?_⟩, by simp [intOf]; omega⟩
            rw [hbs.out]
            exact hown7
          · obtain rfl : nb = q := by omega
            have q1 : ¬ (nb : Int) < (nb : Int) := by omega
            by_cases hpos : 0 < V
            · have hn : ¬ ((Z : Int) ≤ ((2 ^ nb - 1 : Nat) : Int)) := by
                have h1 := hV.out
                intro h2
                have h3 : Z < 2 ^ nb := by have := hMc.out; have := hp1.out; omega
                rw [Nat.div_eq_of_lt h3] at h1
                omega
              have hbd := Lib.hid (hbad.out (by omega))
              have hp0 : (0 : Int) < (V : Int) := by omega
              clear hn
              go_wp2
              go_ret2
              exact .bad hbd.out ⟨rfl, hb⟩
            · obtain rfl : V = 0 := by omega
              have hall2 : Hid (allLe ((2 ^ nb - 1 : Nat) : Int) (zs.take (j + 1)) = true) := Lib.hid (by
                rw [hal.out, hall.out, Bool.true_and, decide_eq_true_eq]
                have h1 := hV.out
                have h2 := Nat.div_eq_zero_iff.1 h1.symm
                have := hMc.out
                have := hp1.out
                omega)
              have hown9 : wr.ownsRow B0 43 1 u8 ((j + 1) * nb) (wcells ((zs.take (j + 1)).flatMap (fun z => bitsL z.toNat nb))) := by
                rw [hjn.out, hsn.out]; exact hown
              replace hown9 := Lib.hid hown9
              clear hpos hown
              go_wp2
              exact ⟨⟨j + 1, by omega, by go_num, hb, k0, hBs, hown9.out, hall2⟩, by simp [intOf]; omega⟩
    · obtain rfl : N = j := by omega
      rw [List.take_of_length_le (by rw [hl.out]; exact Nat.le_refl _)] at hown hall
      obtain ⟨a9, c9, rfl, hW⟩ := owns_words hown
      obtain ⟨L, hL⟩ : ∃ L, zs.flatMap (fun z => bitsL z.toNat nb) = L := ⟨_, rfl⟩
      rw [hL] at hW ⊢
      replace hL := Lib.hid hL
      replace hW := Lib.hid hW
      clear hown
      have j1 : ¬ (N : Int) < (N : Int) := by omega
      go_wp2
      go_ret2
      rw [hL.out]
      exact .good hall.out ⟨_, _, rfl, hb, hW.out⟩
end Go.Proofs.Ytgdokfchfgnbbaa
