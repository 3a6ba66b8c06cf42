/-
  By how much the weight's bits are told too great; may numbers be measured?
-/
import Derived.Test.YtgdokfchfgnbbaaCjC
import Derived.BigQuiet
namespace Go.Proofs.Ytgdokfchfgnbbaa
open Go.RowKit Flow F
set_option linter.unusedVariables false
set_option linter.unusedSimpArgs false

def offN (W : Nat) : Nat := 2 ^ Lib.bitLen W - 1 - W
theorem bl_small : ∀ W : Fin 65, W.val < 2 ^ Lib.bitLen W.val ∧ Lib.bitLen W.val ≤ 7 ∧ (1 ≤ W.val → 1 ≤ Lib.bitLen W.val) := by decide +kernel
theorem bl_lt {W : Nat} (h : W ≤ 64) : W < 2 ^ Lib.bitLen W := (bl_small ⟨W, by omega⟩).1
theorem bl_le {W : Nat} (h : W ≤ 64) : Lib.bitLen W ≤ 7 := (bl_small ⟨W, by omega⟩).2.1
theorem pow_le7 {b : Nat} (h : b ≤ 7) : 2 ^ b ≤ 128 := Nat.le_trans (Nat.pow_le_pow_right (by omega) h) (by decide)
theorem offN_le {W : Nat} (h : W ≤ 64) : offN W ≤ 127 := by unfold offN; have := pow_le7 (bl_le h); omega
theorem offset_any (k f b l c : Int) (W : Nat) (h1 : W ≤ 64) (w : World) : Calls Try.prog 71 #[.agg #[.int .u8 k, .int .u8 f, .int .i64 b, .int .i64 l, .int .i64 (W : Int), .int .i64 c]] w fun e w' => e = .returned (.int .u64 (offN W : Int)) ∧ Below w.heap.size w w' := by
  have hwb := fun w => wb_any k f b l (W : Int) c (by omega) (by omega) w
  simp only [Int.toNat_natCast] at hwb
  have hlt := bl_lt h1
  have hle := bl_le h1
  have hp := pow_le7 hle
  unfold offN
  generalize Lib.bitLen W = B at *
  have hsh : ((1 : Int) * 2 ^ B) = ((2 ^ B : Nat) : Int) := by simp
  obtain ⟨X, hX⟩ : ∃ X, X = 2 ^ B := ⟨_, rfl⟩
  rw [← hX] at hp hlt hsh ⊢
  have hwr : IntKind.u64.wrap ((1 : Int) * 2 ^ B) = (X : Int) := by rw [hsh, IntKind.wrap_u64]; omega
  have hwr2 : IntKind.u64.wrap ((2 : Int) ^ B) = (X : Int) := by rw [← hwr]; simp
  have hwr3 : ((2 : Int) ^ B) = (X : Int) := by rw [← hsh]; simp
  obtain ⟨Y, hY⟩ : ∃ Y, X - 1 = Y := ⟨_, rfl⟩
  obtain ⟨Z, hZ⟩ : ∃ Z, X - 1 - W = Z := ⟨_, rfl⟩
  have hw0 : IntKind.u64.wrap (W : Int) = (W : Int) := by rw [IntKind.wrap_u64]; omega
  have hB0 : IntKind.u64.wrap (B : Int) = (B : Int) := by rw [IntKind.wrap_u64]; omega
  have hy : IntKind.u64.wrap ((X : Int) - 1) = (Y : Int) := by rw [IntKind.wrap_u64]; omega
  have hy2 : (X : Int) - 1 = (Y : Int) := by omega
  have hz : IntKind.u64.wrap ((Y : Int) - (W : Int)) = (Z : Int) := by rw [IntKind.wrap_u64]; omega
  have hz2 : (Y : Int) - (W : Int) = (Z : Int) := by omega
  rw [hZ]
  have hYW : W ≤ Y := by omega
  replace hX := Lib.hid hX
  replace hY := Lib.hid hY
  replace hZ := Lib.hid hZ
  replace hwb := Lib.hid hwb
  clear hsh
  go_enter Try.func71, Try.ntmps71
  go_upto_region 1 with (fail)
  refine name_wp (fun w1 => Below w.heap.size w w1 ∧ w1.heap[w.heap.size]? = some (.cells #[.int .u8 k, .int .u8 f, .int .i64 b, .int .i64 l, .int .i64 (W : Int), .int .i64 c] 25 (0, 0))) ⟨(Below.refl _ _).alloc (Nat.le_refl _) _, alloc_at rfl⟩ ?_
  rintro w1 ⟨hb, k0⟩
  obtain ⟨c0, c1, c2, c3, c4, c5⟩ := blk6 k0
  refine wp_region_flow0 (by kernel_rfl) (by kernel_rfl) ?_
  intro ι _ φ hφ
  have q := fun i => blk6 (keeps (hφ.old i) k0)
  have q0 := fun i => (q i).1
  have q1 := fun i => (q i).2.1
  have q2 := fun i => (q i).2.2.1
  have q3 := fun i => (q i).2.2.2.1
  have q4 := fun i => (q i).2.2.2.2.1
  have q5 := fun i => (q i).2.2.2.2.2
  clear q
  repeat (go_big_quiet_step ((first
    | (go_at_call 72; exact flow_call hφ (hwb.out _)))))
  refine wpQuiet_nil ?_
  intro w2 hw2
  clear q0 q1 q2 q3 q4 q5 hφ c0 c1 c2 c3 c4 c5
  go_wp2
  go_ret
  exact ⟨rfl, below_next hb hb.size hw2⟩
/-- May numbers be measured? -/
def fitsB (x : Ci) (zs : List Int) : Bool := if x.k = 4 then decide (zs.getD 0 0 < x.l) else zs.all (fun z => decide (z ≤ (x.mostN : Int))) && (decide (x.k ≠ 5) || decide (wsum zs ≤ x.w))
def allLe (m : Int) (zs : List Int) : Bool := zs.all (fun z => decide (z ≤ m))
theorem allLe_snoc (m : Int) (l : List Int) (x : Int) : allLe m (l ++ [x]) = (allLe m l && decide (x ≤ m)) := by simp [allLe]
theorem allLe_of_take {m : Int} {l : List Int} {k : Nat} (h : k < l.length) (hx : ¬ l.getD k 0 ≤ m) : allLe m l = false := by
  unfold allLe
  rw [List.all_eq_false]
  refine ⟨l[k], List.getElem_mem h, ?_⟩
  rw [List.getD_eq_getElem?_getD, List.getElem?_eq_getElem h] at hx
  simpa using hx
set_option maxHeartbeats 1000000 in
theorem fits_four (f b W c : Int) (l : Nat) (hl : l ≤ 64) (zs : List Int) (A : Option Addr) (N cp : Nat) (hN : zs.length = N) (h1 : 1 ≤ N) (hz : WordsOK zs) (w : World) (hA : WordsAt w A zs) :
    Calls Try.prog 66 #[.agg #[.int .u8 4, .int .u8 f, .int .i64 b, .int .i64 (l : Int), .int .i64 W, .int .i64 c], .slice A N cp] w fun e w' => e = .returned (.bool (decide (zs.getD 0 0 < (l : Int)))) ∧ Below w.heap.size w w' := by
  obtain ⟨p, o, rfl, hc⟩ := hA 0 (by omega)
  have hx := hz.at_ (k := 0) (by omega)
  have hw0 : IntKind.u64.wrap (l : Int) = (l : Int) := by rw [IntKind.wrap_u64]; omega
  generalize zs.getD 0 0 = z at *
  have N0 : (0 : Int) < (N : Int) := by omega
  have hlt := World.block_lt_of_cell? _ _ hc
  simp only at hlt
  replace hN := Lib.hid hN
  clear hz hA
  have hc' : (w.alloc (.cells #[.int .u8 4, .int .u8 f, .int .i64 b, .int .i64 (l : Int), .int .i64 W, .int .i64 c] 25 (0, 0))).cell? ⟨p, o, none⟩ = some (.int .u64 z) := (((Below.refl _ _).alloc (Nat.le_refl _) _).cell (p := ⟨p, o, none⟩) hlt).trans hc
  go_enter Try.func66, Try.ntmps66
  go_upto_region 1 with (fail)
  refine name_wp (fun w1 => Below w.heap.size w w1 ∧ w1.heap[w.heap.size]? = some (.cells #[.int .u8 4, .int .u8 f, .int .i64 b, .int .i64 (l : Int), .int .i64 W, .int .i64 c] 25 (0, 0)) ∧ w1.cell? ⟨p, o, none⟩ = some (.int .u64 z)) ⟨(Below.refl _ _).alloc (Nat.le_refl _) _, alloc_at rfl, hc'⟩ ?_
  clear hc'
  rintro w1 ⟨hb, k0, hc'⟩
  obtain ⟨c0, c1, c2, c3, c4, c5⟩ := blk6 k0
  go_wp2
  refine wp_region_flow0 (by kernel_rfl) (by kernel_rfl) ?_
  intro ι _ φ hφ
  have q := fun i => blk6 (keeps (hφ.old i) k0)
  have q0 := fun i => (q i).1
  have q3 := fun i => (q i).2.2.2.1
  have q9 := fun i => hφ.cell hc' i
  clear q
  repeat (go_big_quiet_step (fail))
  refine wpQuiet_nil ?_
  intro w2 hw2
  clear q0 q3 q9 hφ c0 c1 c2 c3 c4 c5
  go_wp2
  go_ret
  exact ⟨rfl, below_next hb hb.size hw2⟩
set_option maxHeartbeats 2000000 in
theorem fits_five (f b l c : Int) (W : Nat) (hW : W ≤ 64) (X : Nat) (hM : ∀ w, Calls Try.prog 31 #[.agg #[.int .u8 5, .int .u8 f, .int .i64 b, .int .i64 l, .int .i64 (W : Int), .int .i64 c]] w fun e w' => e = .returned (.int .u64 (X : Int)) ∧ Below w.heap.size w w')
    (zs : List Int) (A : Option Addr) (N cp : Nat) (hN : zs.length = N) (hm : N ≤ maxLen) (hz : WordsOK zs) (w : World) (hA : WordsAt w A zs) (R : Bool) (hfin : R = (allLe (X : Int) zs && decide (wsum zs ≤ (W : Int)))) :
    Calls Try.prog 66 #[.agg #[.int .u8 5, .int .u8 f, .int .i64 b, .int .i64 l, .int .i64 (W : Int), .int .i64 c], .slice A N cp] w fun e w' => e = .returned (.bool R) ∧ Below w.heap.size w w' := by
  have had := Lib.hid (fun w hA => added_any zs A N cp hN hz hm w hA)
  have hw0 : IntKind.u64.wrap (W : Int) = (W : Int) := by rw [IntKind.wrap_u64]; omega
  unfold maxLen at hm
  replace hN := Lib.hid hN
  replace hA := Lib.hid hA
  replace hz := Lib.hid hz
  replace hM := Lib.hid hM
  replace hfin := Lib.hid hfin
  go_enter Try.func66, Try.ntmps66
  go_upto_region 1 with (fail)
  refine name_wp (fun w1 => Below w.heap.size w w1 ∧ w1.heap[w.heap.size]? = some (.cells #[.int .u8 5, .int .u8 f, .int .i64 b, .int .i64 l, .int .i64 (W : Int), .int .i64 c] 25 (0, 0))) ⟨(Below.refl _ _).alloc (Nat.le_refl _) _, alloc_at rfl⟩ ?_
  rintro w1 ⟨hb, k0⟩
  obtain ⟨c0, c1, c2, c3, c4, c5⟩ := blk6 k0
  go_wp2_with fail
  refine call_then (hM.out _) ?_
  intro w2 hb2
  replace hb := below_next hb hb.size hb2
  replace k0 := keeps hb2 k0
  clear hb2 c0 c1 c2 c3 c4 c5
  obtain ⟨c0, c1, c2, c3, c4, c5⟩ := blk6 k0
  go_wp2
  clear c0 c1 c2 c3 c4 c5
  go_loopw [22] (fun i wr => ∃ j : Nat, j ≤ N ∧ i = .int .i64 (j : Int) ∧ Below w.heap.size w wr ∧ wr.heap[w.heap.size]? = some (.cells #[.int .u8 5, .int .u8 f, .int .i64 b, .int .i64 l, .int .i64 W, .int .i64 c] 25 (0, 0)) ∧ Hid (allLe (X : Int) (zs.take j) = true)) (fun i _ => N - (intOf i).toNat)
  case atStart => exact ⟨0, Nat.zero_le _, rfl, hb, k0, Lib.hid rfl⟩
  case round =>
    clear hb k0
    obtain ⟨j, hj, rfl, hb, k0, hall⟩ := hrel
    obtain ⟨c0, c1, c2, c3, c4, c5⟩ := blk6 k0
    by_cases hlt : j < N
    · have j1 : (j : Int) < (N : Int) := by omega
      have j0 : (0 : Int) ≤ (j : Int) := by omega
      obtain ⟨p, o, rfl, hc⟩ := hA.out j (by rw [hN.out]; exact hlt)
      have hc2 := (hb.cell (World.block_lt_of_cell? _ _ hc)).trans hc
      have hx := hz.out.at_ (k := j) (by rw [hN.out]; exact hlt)
      by_cases hle : zs.getD j 0 ≤ (X : Int)
      · have hall2 : Hid (allLe (X : Int) (zs.take (j + 1)) = true) := Lib.hid (by rw [take_snocD (by rw [hN.out]; exact hlt), allLe_snoc, hall.out]; simpa using hle)
        have b1 : decide (zs.getD j 0 > (X : Int)) = false := by rw [decide_eq_false_iff_not]; omega
        generalize zs.getD j 0 = z at *
        clear hc hle
        go_wp2
        exact ⟨⟨j + 1, by omega, by go_num, hb, k0, hall2⟩, by simp [intOf]; omega⟩
      · have hbad := allLe_of_take (by rw [hN.out]; exact hlt) hle
        have b1 : decide (zs.getD j 0 > (X : Int)) = true := by rw [decide_eq_true_eq]; omega
        generalize zs.getD j 0 = z at *
        clear hc hle
        have hbad2 := Lib.hid hbad
        clear hbad
        go_wp2
        go_ret
        exact ⟨by rw [hfin.out, hbad2.out]; rfl, hb⟩
    · obtain rfl : N = j := by omega
      rw [List.take_of_length_le (by rw [hN.out]; exact Nat.le_refl _)] at hall
      have j1 : ¬ (N : Int) < (N : Int) := by omega
      have hfin2 := Lib.hid (hfin.out.trans (by rw [hall.out, Bool.true_and]))
      skip
      have had := fun w (hA : WordsAt w A zs) => had.out w hA
      go_wp2
      refine wp_region_flow0 (by kernel_rfl) (by kernel_rfl) ?_
      intro ι _ φ hφ
      have q := fun i => blk6 (keeps (hφ.old i) k0)
      have q0 := fun i => (q i).1
      have q4 := fun i => (q i).2.2.2.2.1
      have q9 := fun i => (hA.out.up hb).up (hφ.old i)
      clear q
      replace had := Lib.hid had
      replace q9 := Lib.hid q9
      repeat (go_big_quiet_step ((go_at_call 70; exact flow_call hφ (had.out _ (q9.out _)))))
      refine wpQuiet_nil ?_
      intro w2 hw2
      clear q0 q4 q9 hφ c0 c1 c2 c3 c4 c5
      go_wp2
      go_ret
      exact ⟨by rw [hfin2.out]; rfl, below_next hb hb.size hw2⟩
set_option maxHeartbeats 2000000 in
theorem fits_rest (k f b l W c : Int) (hk4 : k ≠ 4) (hk5 : k ≠ 5) (X : Nat) (hM : ∀ w, Calls Try.prog 31 #[.agg #[.int .u8 k, .int .u8 f, .int .i64 b, .int .i64 l, .int .i64 W, .int .i64 c]] w fun e w' => e = .returned (.int .u64 (X : Int)) ∧ Below w.heap.size w w')
    (zs : List Int) (A : Option Addr) (N cp : Nat) (hN : zs.length = N) (hm : N ≤ maxLen) (hz : WordsOK zs) (w : World) (hA : WordsAt w A zs) (R : Bool) (hfin : R = (allLe (X : Int) zs && true)) :
    Calls Try.prog 66 #[.agg #[.int .u8 k, .int .u8 f, .int .i64 b, .int .i64 l, .int .i64 W, .int .i64 c], .slice A N cp] w fun e w' => e = .returned (.bool R) ∧ Below w.heap.size w w' := by
  unfold maxLen at hm
  have n4 : (k == 4) = false := by simpa using hk4
  have n5 : (k == 5) = false := by simpa using hk5
  have m5 : (k != 5) = true := by simpa using hk5
  have d4 : decide (k = 4) = false := by simpa using hk4
  clear hk4 hk5
  replace hN := Lib.hid hN
  replace hA := Lib.hid hA
  replace hz := Lib.hid hz
  replace hM := Lib.hid hM
  replace hfin := Lib.hid hfin
  go_enter Try.func66, Try.ntmps66
  go_upto_region 1 with (fail)
  refine name_wp (fun w1 => Below w.heap.size w w1 ∧ w1.heap[w.heap.size]? = some (.cells #[.int .u8 k, .int .u8 f, .int .i64 b, .int .i64 l, .int .i64 W, .int .i64 c] 25 (0, 0))) ⟨(Below.refl _ _).alloc (Nat.le_refl _) _, alloc_at rfl⟩ ?_
  rintro w1 ⟨hb, k0⟩
  obtain ⟨c0, c1, c2, c3, c4, c5⟩ := blk6 k0
  go_wp2_with fail
  refine call_then (hM.out _) ?_
  intro w2 hb2
  replace hb := below_next hb hb.size hb2
  replace k0 := keeps hb2 k0
  clear hb2 c0 c1 c2 c3 c4 c5
  obtain ⟨c0, c1, c2, c3, c4, c5⟩ := blk6 k0
  go_wp2
  clear c0 c1 c2 c3 c4 c5
  go_loopw [22] (fun i wr => ∃ j : Nat, j ≤ N ∧ i = .int .i64 (j : Int) ∧ Below w.heap.size w wr ∧ wr.heap[w.heap.size]? = some (.cells #[.int .u8 k, .int .u8 f, .int .i64 b, .int .i64 l, .int .i64 W, .int .i64 c] 25 (0, 0)) ∧ Hid (allLe (X : Int) (zs.take j) = true)) (fun i _ => N - (intOf i).toNat)
  case atStart => exact ⟨0, Nat.zero_le _, rfl, hb, k0, Lib.hid rfl⟩
  case round =>
    clear hb k0
    obtain ⟨j, hj, rfl, hb, k0, hall⟩ := hrel
    obtain ⟨c0, c1, c2, c3, c4, c5⟩ := blk6 k0
    by_cases hlt : j < N
    · have j1 : (j : Int) < (N : Int) := by omega
      have j0 : (0 : Int) ≤ (j : Int) := by omega
      obtain ⟨p, o, rfl, hc⟩ := hA.out j (by rw [hN.out]; exact hlt)
      have hc2 := (hb.cell (World.block_lt_of_cell? _ _ hc)).trans hc
      have hx := hz.out.at_ (k := j) (by rw [hN.out]; exact hlt)
      by_cases hle : zs.getD j 0 ≤ (X : Int)
      · have hall2 : Hid (allLe (X : Int) (zs.take (j + 1)) = true) := Lib.hid (by rw [take_snocD (by rw [hN.out]; exact hlt), allLe_snoc, hall.out]; simpa using hle)
        have b1 : decide (zs.getD j 0 > (X : Int)) = false := by rw [decide_eq_false_iff_not]; omega
        generalize zs.getD j 0 = z at *
        clear hc hle
        go_wp2
        exact ⟨⟨j + 1, by omega, by go_num, hb, k0, hall2⟩, by simp [intOf]; omega⟩
      · have hbad := allLe_of_take (by rw [hN.out]; exact hlt) hle
        have b1 : decide (zs.getD j 0 > (X : Int)) = true := by rw [decide_eq_true_eq]; omega
        generalize zs.getD j 0 = z at *
        clear hc hle
        have hbad2 := Lib.hid hbad
        clear hbad
        go_wp2
        go_ret
        exact ⟨by rw [hfin.out, hbad2.out]; rfl, hb⟩
    · obtain rfl : N = j := by omega
      rw [List.take_of_length_le (by rw [hN.out]; exact Nat.le_refl _)] at hall
      have j1 : ¬ (N : Int) < (N : Int) := by omega
      have hfin2 := Lib.hid (hfin.out.trans (by rw [hall.out, Bool.true_and]))
      skip
      go_wp2
      refine wp_region_flow0 (by kernel_rfl) (by kernel_rfl) ?_
      intro ι _ φ hφ
      have q := fun i => blk6 (keeps (hφ.old i) k0)
      have q0 := fun i => (q i).1
      have q4 := fun i => (q i).2.2.2.2.1
      clear q
      repeat (go_big_quiet_step (fail))
      refine wpQuiet_nil ?_
      intro w2 hw2
      clear q0 q4 hφ c0 c1 c2 c3 c4 c5
      go_wp2
      go_ret
      exact ⟨by rw [hfin2.out]; rfl, below_next hb hb.size hw2⟩
/-- May numbers be measured? -/
theorem fits_any (x : Ci) (h : x.Good) (zs : List Int) (A : Option Addr) (N cp : Nat) (hN : zs.length = N) (h1 : 1 ≤ N) (hm : N ≤ maxLen) (hz : WordsOK zs) (w : World) (hA : WordsAt w A zs) :
    Calls Try.prog 66 #[cvl x, .slice A N cp] w fun e w' => e = .returned (.bool (fitsB x zs)) ∧ Below w.heap.size w w' := by
  have hM := fun w => most_any x h w
  have hF := h.fits
  unfold fitsB
  obtain ⟨k, f, b, l, W, c⟩ := x
  unfold cvl at *
  generalize (Ci.mk k f b l W c).mostN = X at *
  simp only at *
  by_cases h4 : k = 4
  · subst h4
    have hl := hF.l (by simp)
    simp only at hl
    obtain ⟨nl, rfl⟩ := Int.eq_ofNat_of_zero_le (show 0 ≤ l by omega)
    rw [if_pos rfl]
    exact fits_four f b W c nl (by omega) zs A N cp hN h1 hz w hA
  · rw [if_neg h4]
    by_cases h5 : k = 5
    · subst h5
      have hw := hF.w rfl
      have hl := hF.l (by simp)
      simp only at hw hl
      obtain ⟨nW, rfl⟩ := Int.eq_ofNat_of_zero_le (show 0 ≤ W by omega)
      refine fits_five f b l c nW (by omega) X hM zs A N cp hN hm hz w hA _ ?_
      simp [allLe]
    · refine fits_rest k f b l W c h4 h5 X hM zs A N cp hN hm hz w hA _ ?_
      simp [allLe, h5]
end Go.Proofs.Ytgdokfchfgnbbaa
