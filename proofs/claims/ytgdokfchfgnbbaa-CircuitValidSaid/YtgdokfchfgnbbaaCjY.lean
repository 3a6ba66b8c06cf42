/-
  What is measured as a vector, as the document says: a Count, a Histogram, a Multihot.
-/
import Derived.Test.YtgdokfchfgnbbaaCjX
namespace Go.Proofs.Ytgdokfchfgnbbaa
open Go.RowKit Flow F
set_option linter.unusedVariables false
set_option linter.unusedSimpArgs false

/-- The 1 at a place, up to so many. -/
def uptoU (z t : Nat) : List Int := (List.range t).map fun i => if i = z then 1 else 0
theorem uptoU_succ (z t : Nat) : uptoU z (t + 1) = uptoU z t ++ [if t = z then 1 else 0] := by simp [uptoU, List.range_succ]
theorem uptoU_unit {z l : Nat} (hz : z < l) : uptoU z l = unit l z := by
  have hl1 : (uptoU z l).length = l := by simp [uptoU]
  have hl2 : (unit l z).length = l := by simp [unit]
  refine List.ext_getElem (by omega) fun i h1 h2 => ?_
  have e := unit_at hz (i := i) (by omega)
  rw [List.getD_eq_getElem?_getD, List.getElem?_eq_getElem h2] at e
  have e' : (unit l z)[i] = if i = z then 1 else 0 := e
  rw [e']
  simp [uptoU]
set_option maxRecDepth 20000 in
set_option maxHeartbeats 4000000 in
theorem renc_hist (x : Ci) (h : x.Good) (h4 : x.k = 4) (zs : List Int) (A : Option Addr) (N cp : Nat) (hl : zs.length = N) (hN : N = x.measuredN) (hz : WordsOK zs) (w : World) (hA : WordsAt w A zs) :
    Calls Try.prog 34 #[rvl x, .slice A N cp] w (RencR (fitsB x zs) (encL x zs) w) := by
  have hL := h.fits.l (by omega)
  obtain ⟨nl, hnl⟩ := Int.eq_ofNat_of_zero_le (show 0 ≤ x.l by omega)
  have e1 : encL x zs = unit nl (zs.getD 0 0).toNat := by unfold encL unit; rw [if_neg (by omega), if_pos h4, hnl]; simp
  have e2 : fitsB x zs = decide (zs.getD 0 0 < (nl : Int)) := by unfold fitsB; rw [if_pos h4, hnl]
  rw [e1, e2]
  clear e1 e2
  have hO := rout_any x h
  have hz' := h.code
  unfold Ci.measuredN at hN
  obtain ⟨k, f, b, l, W, c⟩ := x
  have hC := fun w => rcheck_any k f b l W c w
  unfold rvl NumBy at *
  rw [hz'] at hC
  simp only at h4 hN hL hnl
  subst h4 hnl
  rw [if_pos rfl] at hN
  subst hN
  obtain ⟨p, o, rfl, hc'⟩ := hA 0 (by omega)
  have hc : w.cell? ⟨p, o, none⟩ = some (.int .u64 (zs.getD 0 0)) := hc'
  clear hc'
  have hx := hz.at_ (k := 0) (by omega)
  generalize zs.getD 0 0 = z at *
  obtain ⟨Z, rfl⟩ := Int.eq_ofNat_of_zero_le hx.1
  rw [Int.toNat_natCast]
  have hlw : IntKind.u64.wrap (nl : Int) = (nl : Int) := by rw [IntKind.wrap_u64]; omega
  obtain ⟨i0, hinf, hz0, hz1, hz2⟩ := info_parts info_word
  replace hinf := Lib.hid hinf
  replace hC := Lib.hid hC
  replace hO := Lib.hid hO
  replace hA := Lib.hid hA
  replace hl := Lib.hid hl
  replace hz := Lib.hid hz
  clear h hz'
  by_cases hbadz : nl ≤ Z
  · have b1 : decide ((Z : Int) ≥ (nl : Int)) = true := by simpa using hbadz
    have b2 : (nl : Int) ≤ (Z : Int) := by omega
    have hd : Hid (decide ((Z : Int) < (nl : Int)) = false) := Lib.hid (by simpa using hbadz)
    clear hbadz
    go_enter Try.func34, Try.ntmps34
    go_upto_region 1 with (fail)
    refine name_wp (fun w1 => Below w.heap.size w w1 ∧ w1.heap[w.heap.size]? = some (.cells #[.int .i64 4, .int .i64 f, .int .i64 b, .int .i64 (nl : Int), .int .i64 W, .int .i64 c] 32 (0, 0))) ⟨(Below.refl _ _).alloc (Nat.le_refl _) _, alloc_at rfl⟩ ?_
    rintro w1 ⟨hb, k0⟩
    obtain ⟨c0, c1, c2, c3, c4, c5⟩ := blk6 k0
    go_wp2_with fail
    refine call_then (hC.out _) ?_
    intro w2 hb2
    replace hb := below_next hb hb.size hb2
    replace k0 := keeps hb2 k0
    clear hb2 c0 c1 c2 c3 c4 c5
    obtain ⟨c0, c1, c2, c3, c4, c5⟩ := blk6 k0
    go_wp2_with fail
    refine call_then (hO.out _) ?_
    intro w2 hb2
    replace hb := below_next hb hb.size hb2
    replace k0 := keeps hb2 k0
    clear hb2 c0 c1 c2 c3 c4 c5
    obtain ⟨c0, c1, c2, c3, c4, c5⟩ := blk6 k0
    clear hC hO
    go_wp2
    have hBw := hb.size
    have hpB := lt_of_get k0
    obtain ⟨B0, hB0⟩ : ∃ B0, B0 = w2.heap.size := ⟨_, rfl⟩
    rw [← hB0] at hBw hpB
    have hBs : B0 ≤ w2.heap.size := Nat.le_of_eq hB0
    have hown : w2.ownsRow B0 43 1 (.slice none 0 0) 0 (wcells []) := World.ownsRow_nil _ _ _ _
    replace hBw := Lib.hid hBw
    replace hpB := Lib.hid hpB
    clear hB0 c0 c1 c2 c3 c4 c5
    have hc2 := (hb.cell (World.block_lt_of_cell? _ _ hc)).trans hc
    go_loopw [10, 8] (fun i v wr => i = .int .i64 0 ∧ v = .slice none 0 0 ∧ wr = w2) (fun i _ _ => 0)
    case atStart => exact ⟨rfl, rfl, rfl⟩
    case round =>
      obtain ⟨rfl, rfl, rfl⟩ := hrel
      obtain ⟨c0, c1, c2, c3, c4, c5⟩ := blk6 k0
      go_wp2
      go_ret2
      exact .bad hd.out ⟨rfl, hb⟩
  · have hZl : Z < nl := by omega
    have b1 : decide ((Z : Int) ≥ (nl : Int)) = false := by simp; omega
    have b2 : ¬ (nl : Int) ≤ (Z : Int) := by omega
    have hd : Hid (decide ((Z : Int) < (nl : Int)) = true) := Lib.hid (by simp; omega)
    have hun := Lib.hid (uptoU_unit hZl)
    clear hbadz
    go_enter Try.func34, Try.ntmps34
    go_upto_region 1 with (fail)
    refine name_wp (fun w1 => Below w.heap.size w w1 ∧ w1.heap[w.heap.size]? = some (.cells #[.int .i64 4, .int .i64 f, .int .i64 b, .int .i64 (nl : Int), .int .i64 W, .int .i64 c] 32 (0, 0))) ⟨(Below.refl _ _).alloc (Nat.le_refl _) _, alloc_at rfl⟩ ?_
    rintro w1 ⟨hb, k0⟩
    obtain ⟨c0, c1, c2, c3, c4, c5⟩ := blk6 k0
    go_wp2_with fail
    refine call_then (hC.out _) ?_
    intro w2 hb2
    replace hb := below_next hb hb.size hb2
    replace k0 := keeps hb2 k0
    clear hb2 c0 c1 c2 c3 c4 c5
    obtain ⟨c0, c1, c2, c3, c4, c5⟩ := blk6 k0
    go_wp2_with fail
    refine call_then (hO.out _) ?_
    intro w2 hb2
    replace hb := below_next hb hb.size hb2
    replace k0 := keeps hb2 k0
    clear hb2 c0 c1 c2 c3 c4 c5
    obtain ⟨c0, c1, c2, c3, c4, c5⟩ := blk6 k0
    clear hC hO
    go_wp2
    have hBw := hb.size
    have hpB := lt_of_get k0
    obtain ⟨B0, hB0⟩ : ∃ B0, B0 = w2.heap.size := ⟨_, rfl⟩
    rw [← hB0] at hBw hpB
    have hBs : B0 ≤ w2.heap.size := Nat.le_of_eq hB0
    have hown : w2.ownsRow B0 43 1 (.slice none 0 0) 0 (wcells []) := World.ownsRow_nil _ _ _ _
    replace hBw := Lib.hid hBw
    replace hpB := Lib.hid hpB
    clear hB0 c0 c1 c2 c3 c4 c5
    have hc2 := (hb.cell (World.block_lt_of_cell? _ _ hc)).trans hc
    have hcl := World.block_lt_of_cell? _ _ hc
    go_loopw [10, 8] (fun i v wr => ∃ j : Nat, j ≤ 1 ∧ i = .int .i64 (j : Int) ∧ Below w.heap.size w wr ∧ wr.heap[w.heap.size]? = some (.cells #[.int .i64 4, .int .i64 f, .int .i64 b, .int .i64 (nl : Int), .int .i64 W, .int .i64 c] 32 (0, 0)) ∧ B0 ≤ wr.heap.size ∧ wr.ownsRow B0 43 1 v (j * nl) (wcells (uptoU Z (j * nl)))) (fun i _ _ => 1 - (intOf i).toNat)
    case atStart => exact ⟨0, by omega, rfl, hb, k0, hBs, by rw [Nat.zero_mul]; exact hown⟩
    case round =>
      clear hb k0 hBs hown hc2
      obtain ⟨j, hj, rfl, hb, k0, hBs, hown⟩ := hrel
      obtain ⟨c0, c1, c2, c3, c4, c5⟩ := blk6 k0
      by_cases hlt : j < 1
      · obtain rfl : j = 0 := by omega
        have hc2 := (hb.cell hcl).trans hc
        rw [Nat.zero_mul] at hown
        rw [show ((0 : Nat) : Int) = 0 from rfl]
        go_wp2
        clear c0 c1 c2 c3 c4 c5 hc2
        go_loopw [12, 8] (fun i v wr => ∃ q : Nat, q ≤ nl ∧ i = .int .i64 (q : Int) ∧ Below w.heap.size w wr ∧ wr.heap[w.heap.size]? = some (.cells #[.int .i64 4, .int .i64 f, .int .i64 b, .int .i64 (nl : Int), .int .i64 W, .int .i64 c] 32 (0, 0)) ∧ B0 ≤ wr.heap.size ∧ wr.ownsRow B0 43 1 v q (wcells (uptoU Z q))) (fun i _ _ => nl - (intOf i).toNat)
        case atStart => exact ⟨0, Nat.zero_le _, rfl, hb, k0, hBs, hown⟩
        case round =>
          clear hb k0 hBs hown
          obtain ⟨q, hq, rfl, hb, k0, hBs, hown⟩ := hrel
          obtain ⟨c0, c1, c2, c3, c4, c5⟩ := blk6 k0
          by_cases hltq : q < nl
          · have q1 : (q : Int) < (nl : Int) := by omega
            have q0 : (0 : Int) ≤ (q : Int) := by omega
            have hqw : IntKind.u64.wrap (q : Int) = (q : Int) := by rw [IntKind.wrap_u64]; omega
            by_cases hqz : q = Z
            · have hbs := Lib.hid (show wcells (uptoU Z (q + 1)) = wcells (uptoU Z q) ++ [.int .u64 1] by rw [uptoU_succ, wcells_append, if_pos hqz]; rfl)
              have b3 : ((q : Int) == (Z : Int)) = true := by subst hqz; simp
              clear hqz
              have hown6 := Lib.hid (hown.alloc (.cells #[.int .u64 1] 43 (0, 0)))
              have hb6 := Lib.hid (hb.alloc hb.size (.cells #[.int .u64 1] 43 (0, 0)))
              have k6 := Lib.hid (alloc_keeps (o := .cells #[.int .u64 1] 43 (0, 0)) k0)
              have hBs6 : B0 ≤ (wr.alloc (.cells #[.int .u64 1] 43 (0, 0))).heap.size := Nat.le_trans hBs (by simp)
              have t1 : q + 1 ≤ maxLen := by unfold maxLen; omega
              have t2 : (q + 1) * 8 ≤ 140737488355328 := by omega
              clear hown hb k0 hBs
              go_wp2_with (at_builtin; refine wpList_append_own _ rfl _ _ 46 rfl B0 43 i0 (.int .u64 0) 1 8 Try.underlying46 hinf.out hz0 hz1 hz2 rfl (by decide) _ _ _ rfl hown6.out ⟨_, 0, none⟩ 1 1 [.int .u64 1] rfl rfl (news_word (by simp)) (by simp [Value.oneCell']) t1 t2 hBs6 ?_; intro v1 w7 hown7 hg7 _; have hb7 := grownn_below hb6.out hBw.out hown6.out hg7; have k7 := (hg7.block w.heap.size (lt_of_get k6.out) (fun e => by have := (hown6.out.lt _ e.symm).1; have := hpB.out; omega)).trans k6.out; have hBs7 := Nat.le_trans hBs6 hg7.size; clear hg7)
              refine ⟨⟨q + 1, by omega, by go_num, hb7, k7, hBs7, ?_⟩, by simp [intOf]; omega⟩
              rw [hbs.out]
              exact hown7
            · have hbs := Lib.hid (show wcells (uptoU Z (q + 1)) = wcells (uptoU Z q) ++ [.int .u64 0] by rw [uptoU_succ, wcells_append, if_neg hqz]; rfl)
              have b3 : ((q : Int) == (Z : Int)) = false := by simp; omega
              clear hqz
              have hown6 := Lib.hid (hown.alloc (.cells #[.int .u64 0] 43 (0, 0)))
              have hb6 := Lib.hid (hb.alloc hb.size (.cells #[.int .u64 0] 43 (0, 0)))
              have k6 := Lib.hid (alloc_keeps (o := .cells #[.int .u64 0] 43 (0, 0)) k0)
              have hBs6 : B0 ≤ (wr.alloc (.cells #[.int .u64 0] 43 (0, 0))).heap.size := Nat.le_trans hBs (by simp)
              have t1 : q + 1 ≤ maxLen := by unfold maxLen; omega
              have t2 : (q + 1) * 8 ≤ 140737488355328 := by omega
              clear hown hb k0 hBs
              go_wp2_with (at_builtin; refine wpList_append_own _ rfl _ _ 46 rfl B0 43 i0 (.int .u64 0) 1 8 Try.underlying46 hinf.out hz0 hz1 hz2 rfl (by decide) _ _ _ rfl hown6.out ⟨_, 0, none⟩ 1 1 [.int .u64 0] rfl rfl (news_word (by simp)) (by simp [Value.oneCell']) t1 t2 hBs6 ?_; intro v1 w7 hown7 hg7 _; have hb7 := grownn_below hb6.out hBw.out hown6.out hg7; have k7 := (hg7.block w.heap.size (lt_of_get k6.out) (fun e => by have := (hown6.out.lt _ e.symm).1; have := hpB.out; omega)).trans k6.out; have hBs7 := Nat.le_trans hBs6 hg7.size; clear hg7)
              refine ⟨⟨q + 1, by omega, by go_num, hb7, k7, hBs7, ?_⟩, by simp [intOf]; omega⟩
              rw [hbs.out]
              exact hown7
          · obtain rfl : nl = q := by omega
            have q1 : ¬ (nl : Int) < (nl : Int) := by omega
            go_wp2
            exact ⟨⟨1, by omega, by go_num, hb, k0, hBs, by rw [Nat.one_mul]; exact hown⟩, by simp [intOf]⟩
      · obtain rfl : j = 1 := by omega
        rw [Nat.one_mul] at hown
        rw [hun.out] at hown
        obtain ⟨a9, c9, rfl, hW⟩ := owns_words hown
        obtain ⟨L, hL⟩ : ∃ L, unit nl Z = L := ⟨_, rfl⟩
        rw [hL] at hW ⊢
        replace hL := Lib.hid hL
        replace hW := Lib.hid hW
        clear hown
        rw [show ((1 : Nat) : Int) = 1 from rfl]
        go_wp2
        go_ret2
        rw [hL.out]
        exact .good (by first | rfl | exact hd.out) ⟨_, _, rfl, hb, hW.out⟩
theorem ones_le2 {zs : List Int} (h : allLe 1 zs = true) (h0 : WordsOK zs) : ones zs ≤ zs.length := ones_le (bitsB_of fun z hz => ⟨(h0 z hz).1, by unfold allLe at h; rw [List.all_eq_true] at h; simpa using h z hz⟩)
theorem WordsOK.take {zs : List Int} (h : WordsOK zs) (k : Nat) : WordsOK (zs.take k) := fun z hz => h z (List.mem_of_mem_take hz)
set_option maxRecDepth 20000 in
set_option maxHeartbeats 4000000 in
theorem renc_count (x : Ci) (h : x.Good) (h1 : x.k = 1) (zs : List Int) (A : Option Addr) (N cp : Nat) (hl : zs.length = N) (hN : N = x.measuredN) (hz : WordsOK zs) (w : World) (hA : WordsAt w A zs) :
    Calls Try.prog 34 #[rvl x, .slice A N cp] w (RencR (fitsB x zs) (encL x zs) w) := by
  have e1 : encL x zs = zs := by unfold encL; rw [if_neg (by omega), if_neg (by omega), if_neg (by omega)]
  have e2 : fitsB x zs = allLe 1 zs := by
    unfold fitsB allLe Ci.mostN
    rw [if_neg (by omega), if_neg (by omega)]
    have : x.k ≠ 5 := by omega
    simp [this]
  rw [e1, e2]
  clear e1 e2
  obtain ⟨R, hR⟩ : ∃ R, allLe 1 zs = R := ⟨_, rfl⟩
  have hfz := Lib.hid (fun (e : allLe 1 zs = false) => (hR.symm.trans e : R = false))
  have hft := Lib.hid (fun (e : allLe 1 zs = true) => (hR.symm.trans e : R = true))
  rw [hR]
  clear hR
  have hO := rout_any x h
  have hz' := h.code
  unfold Ci.measuredN at hN
  obtain ⟨k, f, b, l, W, c⟩ := x
  have hC := fun w => rcheck_any k f b l W c w
  unfold rvl NumBy at *
  rw [hz'] at hC
  simp only at h1 hN
  subst h1
  rw [if_neg (by omega)] at hN
  have hN1 : N = 1 := by rw [hN]; simp [Ci.outN]
  rw [← hN] at hO
  have hN64 : N ≤ 64 := by omega
  obtain ⟨i0, hinf, hz0, hz1, hz2⟩ := info_parts info_word
  replace hinf := Lib.hid hinf
  replace hC := Lib.hid hC
  replace hO := Lib.hid hO
  replace hA := Lib.hid hA
  replace hl := Lib.hid hl
  replace hz := Lib.hid hz
  clear h hz' hN hN1
  go_enter Try.func34, Try.ntmps34
  go_upto_region 1 with (fail)
  refine name_wp (fun w1 => Below w.heap.size w w1 ∧ w1.heap[w.heap.size]? = some (.cells #[.int .i64 1, .int .i64 f, .int .i64 b, .int .i64 l, .int .i64 W, .int .i64 c] 32 (0, 0))) ⟨(Below.refl _ _).alloc (Nat.le_refl _) _, alloc_at rfl⟩ ?_
  rintro w1 ⟨hb, k0⟩
  obtain ⟨c0, c1, c2, c3, c4, c5⟩ := blk6 k0
  go_wp2_with fail
  refine call_then (hC.out _) ?_
  intro w2 hb2
  replace hb := below_next hb hb.size hb2
  replace k0 := keeps hb2 k0
  clear hb2 c0 c1 c2 c3 c4 c5
  obtain ⟨c0, c1, c2, c3, c4, c5⟩ := blk6 k0
  go_wp2_with fail
  refine call_then (hO.out _) ?_
  intro w2 hb2
  replace hb := below_next hb hb.size hb2
  replace k0 := keeps hb2 k0
  clear hb2 c0 c1 c2 c3 c4 c5
  obtain ⟨c0, c1, c2, c3, c4, c5⟩ := blk6 k0
  clear hC hO
  go_wp2
  have hBw := hb.size
  have hpB := lt_of_get k0
  obtain ⟨B0, hB0⟩ : ∃ B0, B0 = w2.heap.size := ⟨_, rfl⟩
  rw [← hB0] at hBw hpB
  have hBs : B0 ≤ w2.heap.size := Nat.le_of_eq hB0
  have hown : w2.ownsRow B0 43 1 (.slice none 0 0) 0 (wcells []) := World.ownsRow_nil _ _ _ _
  replace hBw := Lib.hid hBw
  replace hpB := Lib.hid hpB
  clear hB0 c0 c1 c2 c3 c4 c5
  go_loopw [10, 8, 9] (fun i v o wr => ∃ j S : Nat, j ≤ N ∧ S ≤ j ∧ i = .int .i64 (j : Int) ∧ o = .int .i64 (S : Int) ∧ Hid (S = ones (zs.take j)) ∧ Below w.heap.size w wr ∧ wr.heap[w.heap.size]? = some (.cells #[.int .i64 1, .int .i64 f, .int .i64 b, .int .i64 l, .int .i64 W, .int .i64 c] 32 (0, 0)) ∧ B0 ≤ wr.heap.size ∧ wr.ownsRow B0 43 1 v j (wcells (zs.take j)) ∧ Hid (allLe 1 (zs.take j) = true)) (fun i _ _ _ => N - (intOf i).toNat)
  case atStart => exact ⟨0, 0, Nat.zero_le _, Nat.le_refl _, rfl, rfl, Lib.hid rfl, hb, k0, hBs, hown, Lib.hid rfl⟩
  case round =>
    clear hb k0 hBs hown
    obtain ⟨j, S, hj, hSj, rfl, rfl, hS, hb, k0, hBs, hown, hall⟩ := hrel
    obtain ⟨c0, c1, c2, c3, c4, c5⟩ := blk6 k0
    by_cases hlt : j < N
    · have j1 : (j : Int) < (N : Int) := by omega
      have j0 : (0 : Int) ≤ (j : Int) := by omega
      obtain ⟨p, o, rfl, hc⟩ := hA.out j (by rw [hl.out]; exact hlt)
      have hc2 := (hb.cell (World.block_lt_of_cell? _ _ hc)).trans hc
      have hx := hz.out.at_ (k := j) (by rw [hl.out]; exact hlt)
      have hsn := Lib.hid (show wcells (zs.take (j + 1)) = wcells (zs.take j) ++ [.int .u64 (zs.getD j 0)] by rw [take_snocD (by rw [hl.out]; exact hlt), wcells_append]; rfl)
      have hsu := Lib.hid (show ones (zs.take (j + 1)) = ones (zs.take j) + (zs.getD j 0).toNat by rw [take_snocD (by rw [hl.out]; exact hlt), ones_append]; simp [ones])
      have hal := Lib.hid (show allLe 1 (zs.take (j + 1)) = (allLe 1 (zs.take j) && decide (zs.getD j 0 ≤ 1)) by rw [take_snocD (by rw [hl.out]; exact hlt), allLe_snoc])
      have hbad := Lib.hid (fun hn => allLe_of_take (m := 1) (l := zs) (k := j) (by rw [hl.out]; exact hlt) hn)
      generalize zs.getD j 0 = z at *
      obtain ⟨Z, rfl⟩ := Int.eq_ofNat_of_zero_le hx.1
      clear hc
      by_cases hbg : 1 < Z
      · have hd := Lib.hid (hfz.out (hbad.out (by omega)))
        have b1 : (1 : Int) < (Z : Int) := by omega
        clear hbg
        go_wp2
        go_ret2
        exact .bad hd.out ⟨rfl, hb⟩
      · have b1 : ¬ (1 : Int) < (Z : Int) := by omega
        have b2 : (Z : Int) ≤ 1 := by omega
        obtain ⟨S2, hS2⟩ : ∃ S2, S + Z = S2 := ⟨_, rfl⟩
        have hS3 : Hid (S2 = ones (zs.take (j + 1))) := Lib.hid (by rw [hsu.out, ← hS.out, Int.toNat_natCast]; omega)
        have hall2 : Hid (allLe 1 (zs.take (j + 1)) = true) := Lib.hid (by rw [hal.out, hall.out]; simpa using b2)
        have zS : (S : Int) + (Z : Int) = (S2 : Int) := by omega
        have zS2 : IntKind.i64.wrap ((S : Int) + (Z : Int)) = (S2 : Int) := wrap_i (by omega) (by omega)
        have hS4 : S2 ≤ j + 1 := by omega
        replace hS2 := Lib.hid hS2
        clear hbg
        have hown6 := Lib.hid (hown.alloc (.cells #[.int .u64 (Z : Int)] 43 (0, 0)))
        have hb6 := Lib.hid (hb.alloc hb.size (.cells #[.int .u64 (Z : Int)] 43 (0, 0)))
        have k6 := Lib.hid (alloc_keeps (o := .cells #[.int .u64 (Z : Int)] 43 (0, 0)) k0)
        have hBs6 : B0 ≤ (wr.alloc (.cells #[.int .u64 (Z : Int)] 43 (0, 0))).heap.size := Nat.le_trans hBs (by simp)
        have t1 : j + 1 ≤ maxLen := by unfold maxLen; omega
        have t2 : (j + 1) * 8 ≤ 140737488355328 := by omega
        clear hown hb k0 hBs
        go_wp2_with (at_builtin; refine wpList_append_own _ rfl _ _ 46 rfl B0 43 i0 (.int .u64 0) 1 8 Try.underlying46 hinf.out hz0 hz1 hz2 rfl (by decide) _ _ _ rfl hown6.out ⟨_, 0, none⟩ 1 1 [.int .u64 (Z : Int)] rfl rfl (news_word (by simp)) (by simp [Value.oneCell']) t1 t2 hBs6 ?_; intro v1 w7 hown7 hg7 _; have hb7 := grownn_below hb6.out hBw.out hown6.out hg7; have k7 := (hg7.block w.heap.size (lt_of_get k6.out) (fun e => by have := (hown6.out.lt _ e.symm).1; have := hpB.out; omega)).trans k6.out; have hBs7 := Nat.le_trans hBs6 hg7.size; clear hg7)
        refine ⟨⟨j + 1, S2, by omega, hS4, by go_num, rfl, hS3, hb7, k7, hBs7, ?_, hall2⟩, by simp [intOf]; omega⟩
        rw [hsn.out]
        exact hown7
    · obtain rfl : N = j := by omega
      rw [List.take_of_length_le (by rw [hl.out]; exact Nat.le_refl _)] at hown hall hS
      have j1 : ¬ (N : Int) < (N : Int) := by omega
      obtain ⟨a9, c9, rfl, hW⟩ := owns_words hown
      obtain ⟨L, hL⟩ : ∃ L, zs.length = L := ⟨_, rfl⟩
      replace hW := Lib.hid hW
      have hd := Lib.hid (hft.out hall.out)
      rw [hl.out]
      clear hown hL
      go_wp2
      go_ret2
      exact .good hd.out ⟨a9, c9, by rw [hl.out]; rfl, hb, hW.out⟩
end Go.Proofs.Ytgdokfchfgnbbaa
