import Derived.Test.YtgdokfchfgnbbaaDL
import Derived.Deep.DeepCutAuto
import Derived.Deep.CutBlock
/-
  What is measured as a vector, as the document says: a Count, a Histogram, a Multihot.
-/
namespace Go.Proofs.Ytgdokfchfgnbbaa
open Go.RowKit Flow F
set_option linter.unusedVariables false
set_option linter.unusedSimpArgs false

/-- The 1 at a place, up to so many. -/
def uptoU (z t : Nat) : List Int := (List.range t).map fun i => if i = z then 1 else 0
theorem uptoU_succ (z t : Nat) : uptoU z (t + 1) = uptoU z t ++ [if t = z then 1 else 0] := by simp [uptoU, List.range_succ]
theorem uptoU_unit {z l : Nat} (hz : z < l) : uptoU z l = unit l z := by
  have hl1 : (uptoU z l).length = l := by simp [uptoU]
  have hl2 : (unit l z).length = l := by simp [unit]
  refine List.ext_getElem (by omega) fun i h1 h2 => ?_
  have e := unit_at hz (i := i) (by omega)
  rw [List.getD_eq_getElem?_getD, List.getElem?_eq_getElem h2] at e
  have e' : (unit l z)[i] = if i = z then 1 else 0 := e
  rw [e']
  simp [uptoU]
set_option maxRecDepth 20000 in
set_option maxHeartbeats 4000000 in
theorem renc_hist (x : Ci) (h : x.Good) (h4 : x.k = 4) (zs : List Int) (A : Option Addr) (N cp : Nat) (hl : zs.length = N) (hN : N = x.measuredN) (hz : WordsOK zs) (w : World) (hA : WordsAt w A zs) :
    Calls Try.prog 34 #[rvl x, .slice A N cp] w (RencR (fitsB x zs) (encL x zs) w) := by
  have hL := h.fits.l (by omega)
  obtain ⟨nl, hnl⟩ := Int.eq_ofNat_of_zero_le (show 0 ≤ x.l by omega)
  have e1 : encL x zs = unit nl (zs.getD 0 0).toNat := by unfold encL unit; rw [if_neg (by omega), if_pos h4, hnl]; simp
  have e2 : fitsB x zs = decide (zs.getD 0 0 < (nl : Int)) := by unfold fitsB; rw [if_pos h4, hnl]
  rw [e1, e2]
  clear e1 e2
  have hO := rout_any x h
  have hz' := h.code
  unfold Ci.measuredN at hN
  obtain ⟨k, f, b, l, W, c⟩ := x
  have hC := fun w => rcheck_any k f b l W c w
  unfold rvl NumBy at *
  rw [hz'] at hC
  simp only at h4 hN hL hnl
  subst h4 hnl
  rw [if_pos rfl] at hN
  subst hN
  obtain ⟨p, o, rfl, hc'⟩ := hA 0 (by omega)
  have hc : w.cell? ⟨p, o, none⟩ = some (.int .u64 (zs.getD 0 0)) := hc'
  clear hc'
  have hx := hz.at_ (k := 0) (by omega)
  generalize zs.getD 0 0 = z at *
  obtain ⟨Z, rfl⟩ := Int.eq_ofNat_of_zero_le hx.1
  rw [Int.toNat_natCast]
  have hlw : IntKind.u64.wrap (nl : Int) = (nl : Int) := by rw [IntKind.wrap_u64]; omega
  obtain ⟨i0, hinf, hz0, hz1, hz2⟩ := info_parts info_word
  replace hinf := Lib.hid hinf
  replace hC := Lib.hid hC
  replace hO := Lib.hid hO
  replace hA := Lib.hid hA
  replace hl := Lib.hid hl
  replace hz := Lib.hid hz
  clear h hz'
  by_cases hbadz : nl ≤ Z
  · have b1 : decide ((Z : Int) ≥ (nl : Int)) = true := by simpa using hbadz
    have b2 : (nl : Int) ≤ (Z : Int) := by omega
    have hd : Hid (decide ((Z : Int) < (nl : Int)) = false) := Lib.hid (by simpa using hbadz)
    clear hbadz
    go_enter Try.func34, Try.ntmps34
    go_upto_region 1 with (fail)
    refine name_wp (fun w1 => Below w.heap.size w w1 ∧ w1.heap[w.heap.size]? = some (.cells #[.int .i64 4, .int .i64 f, .int .i64 b, .int .i64 (nl : Int), .int .i64 W, .int .i64 c] 32 (0, 0))) ⟨(Below.refl _ _).alloc (Nat.le_refl _) _, alloc_at rfl⟩ ?_
    rintro w1 ⟨hb, k0⟩
    obtain ⟨c0, c1, c2, c3, c4, c5⟩ := blk6 k0
    go_wp2_with fail
    refine call_then (hC.out _) ?_
    intro w2 hb2
    replace hb := below_next hb hb.size hb2
    replace k0 := keeps hb2 k0
    clear hb2 c0 c1 c2 c3 c4 c5
    obtain ⟨c0, c1, c2, c3, c4, c5⟩ := blk6 k0
    go_wp2_with fail
    refine call_then (hO.out _) ?_
    intro w2 hb2
    replace hb := below_next hb hb.size hb2
    replace k0 := keeps hb2 k0
    clear hb2 c0 c1 c2 c3 c4 c5
    obtain ⟨c0, c1, c2, c3, c4, c5⟩ := blk6 k0
    clear hC hO
    go_wp2
    have hBw := hb.size
    have hpB := lt_of_get k0
    obtain ⟨B0, hB0⟩ : ∃ B0, B0 = w2.heap.size := ⟨_, rfl⟩
    rw [← hB0] at hBw hpB
    have hBs : B0 ≤ w2.heap.size := Nat.le_of_eq hB0
    have hown : w2.ownsRow B0 43 1 (.slice none 0 0) 0 (wcells []) := World.ownsRow_nil _ _ _ _
    replace hBw := Lib.hid hBw
    replace hpB := Lib.hid hpB
    clear hB0 c0 c1 c2 c3 c4 c5
    have hc2 := (hb.cell (World.block_lt_of_cell? _ _ hc)).trans hc
    go_loopw [10, 8] (fun i v wr => i = .int .i64 0 ∧ v = .slice none 0 0 ∧ wr = w2) (fun i _ _ => 0)
    case atStart => exact ⟨rfl, rfl, rfl⟩
    case round =>
      obtain ⟨rfl, rfl, rfl⟩ := hrel
      obtain ⟨c0, c1, c2, c3, c4, c5⟩ := blk6 k0
      go_wp2
      go_ret2
      exact .bad hd.out ⟨rfl, hb⟩
  · have hZl : Z < nl := by omega
    have b1 : decide ((Z : Int) ≥ (nl : Int)) = false := by simp; omega
    have b2 : ¬ (nl : Int) ≤ (Z : Int) := by omega
    have hd : Hid (decide ((Z : Int) < (nl : Int)) = true) := Lib.hid (by simp; omega)
    have hun := Lib.hid (uptoU_unit hZl)
    clear hbadz
    go_enter Try.func34, Try.ntmps34
    go_upto_region 1 with (fail)
    refine name_wp (fun w1 => Below w.heap.size w w1 ∧ w1.heap[w.heap.size]? = some (.cells #[.int .i64 4, .int .i64 f, .int .i64 b, .int .i64 (nl : Int), .int .i64 W, .int .i64 c] 32 (0, 0))) ⟨(Below.refl _ _).alloc (Nat.le_refl _) _, alloc_at rfl⟩ ?_
    rintro w1 ⟨hb, k0⟩
    obtain ⟨c0, c1, c2, c3, c4, c5⟩ := blk6 k0
    go_wp2_with fail
    refine call_then (hC.out _) ?_
    intro w2 hb2
    replace hb := below_next hb hb.size hb2
    replace k0 := keeps hb2 k0
    clear hb2 c0 c1 c2 c3 c4 c5
    obtain ⟨c0, c1, c2, c3, c4, c5⟩ := blk6 k0
    go_wp2_with fail
    refine call_then (hO.out _) ?_
    intro w2 hb2
    replace hb := below_next hb hb.size hb2
    replace k0 := keeps hb2 k0
    clear hb2 c0 c1 c2 c3 c4 c5
    obtain ⟨c0, c1, c2, c3, c4, c5⟩ := blk6 k0
    clear hC hO
    go_wp2
    have hBw := hb.size
    have hpB := lt_of_get k0
    obtain ⟨B0, hB0⟩ : ∃ B0, B0 = w2.heap.size := ⟨_, rfl⟩
    rw [← hB0] at hBw hpB
    have hBs : B0 ≤ w2.heap.size := Nat.le_of_eq hB0
    have hown : w2.ownsRow B0 43 1 (.slice none 0 0) 0 (wcells []) := World.ownsRow_nil _ _ _ _
    replace hBw := Lib.hid hBw
    replace hpB := Lib.hid hpB
    clear hB0 c0 c1 c2 c3 c4 c5
    have hc2 := (hb.cell (World.block_lt_of_cell? _ _ hc)).trans hc
    have hcl := World.block_lt_of_cell? _ _ hc
    go_loopw [10, 8] (fun i v wr => ∃ j : Nat, j ≤ 1 ∧ i = .int .i64 (j : Int) ∧ Below w.heap.size w wr ∧ wr.heap[w.heap.size]? = some (.cells #[.int .i64 4, .int .i64 f, .int .i64 b, .int .i64 (nl : Int), .int .i64 W, .int .i64 c] 32 (0, 0)) ∧ B0 ≤ wr.heap.size ∧ wr.ownsRow B0 43 1 v (j * nl) (wcells (uptoU Z (j * nl)))) (fun i _ _ => 1 - (intOf i).toNat)
    case atStart => exact ⟨0, by omega, rfl, hb, k0, hBs, by rw [Nat.zero_mul]; exact hown⟩
    case round =>
      clear hb k0 hBs hown hc2
      obtain ⟨j, hj, rfl, hb, k0, hBs, hown⟩ := hrel
      obtain ⟨c0, c1, c2, c3, c4, c5⟩ := blk6 k0
      by_cases hlt : j < 1
      · obtain rfl : j = 0 := by omega
        have hc2 := (hb.cell hcl).trans hc
        rw [Nat.zero_mul] at hown
        rw [show ((0 : Nat) : Int) = 0 from rfl]
        go_wp2
        clear c0 c1 c2 c3 c4 c5 hc2
        go_loopw [12, 8] (fun i v wr => ∃ q : Nat, q ≤ nl ∧ i = .int .i64 (q : Int) ∧ Below w.heap.size w wr ∧ wr.heap[w.heap.size]? = some (.cells #[.int .i64 4, .int .i64 f, .int .i64 b, .int .i64 (nl : Int), .int .i64 W, .int .i64 c] 32 (0, 0)) ∧ B0 ≤ wr.heap.size ∧ wr.ownsRow B0 43 1 v q (wcells (uptoU Z q))) (fun i _ _ => nl - (intOf i).toNat)
        case atStart => exact ⟨0, Nat.zero_le _, rfl, hb, k0, hBs, hown⟩
        case round =>
          clear hb k0 hBs hown
          obtain ⟨q, hq, rfl, hb, k0, hBs, hown⟩ := hrel
          obtain ⟨c0, c1, c2, c3, c4, c5⟩ := blk6 k0
          by_cases hltq : q < nl
          · have q1 : (q : Int) < (nl : Int) := by omega
            have q0 : (0 : Int) ≤ (q : Int) := by omega
            have hqw : IntKind.u64.wrap (q : Int) = (q : Int) := by rw [IntKind.wrap_u64]; omega
            by_cases hqz : q = Z
            · have hbs := Lib.hid (show wcells (uptoU Z (q + 1)) = wcells (uptoU Z q) ++ [.int .u64 1] by rw [uptoU_succ, wcells_append, if_pos hqz]; rfl)
              have b3 : ((q : Int) == (Z : Int)) = true := by subst hqz; simp
              clear hqz
              have hown6 := Lib.hid (hown.alloc (.cells #[.int .u64 1] 43 (0, 0)))
              have hb6 := Lib.hid (hb.alloc hb.size (.cells #[.int .u64 1] 43 (0, 0)))
              have k6 := Lib.hid (alloc_keeps (o := .cells #[.int .u64 1] 43 (0, 0)) k0)
              have hBs6 : B0 ≤ (wr.alloc (.cells #[.int .u64 1] 43 (0, 0))).heap.size := Nat.le_trans hBs (by simp)
              have t1 : q + 1 ≤ maxLen := by unfold maxLen; omega
              have t2 : (q + 1) * 8 ≤ 140737488355328 := by omega
              clear hown hb k0 hBs
              go_wp2_with (at_builtin; refine wpList_append_own _ rfl _ _ 46 rfl B0 43 i0 (.int .u64 0) 1 8 Try.underlying46 hinf.out hz0 hz1 hz2 rfl (by decide) _ _ _ rfl hown6.out ⟨_, 0, none⟩ 1 1 [.int .u64 1] rfl rfl (news_word (by simp)) (by simp [Value.oneCell']) t1 t2 hBs6 ?_; intro v1 w7 hown7 hg7 _; have hb7 := grownn_below hb6.out hBw.out hown6.out hg7; have k7 := (hg7.block w.heap.size (lt_of_get k6.out) (fun e => by have := (hown6.out.lt _ e.symm).1; have := hpB.out; omega)).trans k6.out; have hBs7 := Nat.le_trans hBs6 hg7.size; clear hg7)
              refine ⟨⟨q + 1, by omega, by go_num, hb7, k7, hBs7, ?_⟩, by simp [intOf]; omega⟩
              rw [hbs.out]
              exact hown7
            · have hbs := Lib.hid (show wcells (uptoU Z (q + 1)) = wcells (uptoU Z q) ++ [.int .u64 0] by rw [uptoU_succ, wcells_append, if_neg hqz]; rfl)
              have b3 : ((q : Int) == (Z : Int)) = false := by simp; omega
              clear hqz
              have hown6 := Lib.hid (hown.alloc (.cells #[.int .u64 0] 43 (0, 0)))
              have hb6 := Lib.hid (hb.alloc hb.size (.cells #[.int .u64 0] 43 (0, 0)))
              have k6 := Lib.hid (alloc_keeps (o := .cells #[.int .u64 0] 43 (0, 0)) k0)
              have hBs6 : B0 ≤ (wr.alloc (.cells #[.int .u64 0] 43 (0, 0))).heap.size := Nat.le_trans hBs (by simp)
              have t1 : q + 1 ≤ maxLen := by unfold maxLen; omega
              have t2 : (q + 1) * 8 ≤ 140737488355328 := by omega
              clear hown hb k0 hBs
              go_wp2_with (at_builtin; refine wpList_append_own _ rfl _ _ 46 rfl B0 43 i0 (.int .u64 0) 1 8 Try.underlying46 hinf.out hz0 hz1 hz2 rfl (by decide) _ _ _ rfl hown6.out ⟨_, 0, none⟩ 1 1 [.int .u64 0] rfl rfl (news_word (by simp)) (by simp [Value.oneCell']) t1 t2 hBs6 ?_; intro v1 w7 hown7 hg7 _; have hb7 := grownn_below hb6.out hBw.out hown6.out hg7; have k7 := (hg7.block w.heap.size (lt_of_get k6.out) (fun e => by have := (hown6.out.lt _ e.symm).1; have := hpB.out; omega)).trans k6.out; have hBs7 := Nat.le_trans hBs6 hg7.size; clear hg7)
              refine ⟨⟨q + 1, by omega, by go_num, hb7, k7, hBs7, ?_⟩, by simp [intOf]; omega⟩
              rw [hbs.out]
              exact hown7
          · obtain rfl : nl = q := by omega
            have q1 : ¬ (nl : Int) < (nl : Int) := by omega
            go_wp2
            exact ⟨⟨1, by omega, by go_num, hb, k0, hBs, by rw [Nat.one_mul]; exact hown⟩, by simp [intOf]⟩
      · obtain rfl : j = 1 := by omega
        rw [Nat.one_mul] at hown
        rw [hun.out] at hown
        obtain ⟨a9, c9, rfl, hW⟩ := owns_words hown
        obtain ⟨L, hL⟩ : ∃ L, unit nl Z = L := ⟨_, rfl⟩
        rw [hL] at hW ⊢
        replace hL := Lib.hid hL
        replace hW := Lib.hid hW
        clear hown
        rw [show ((1 : Nat) : Int) = 1 from rfl]
        go_wp2
        go_ret2
        rw [hL.out]
        exact .good (by first | rfl | exact hd.out) ⟨_, _, rfl, hb, hW.out⟩
theorem ones_le2 {zs : List Int} (h : allLe 1 zs = true) (h0 : WordsOK zs) : ones zs ≤ zs.length := ones_le (bitsB_of fun z hz => ⟨(h0 z hz).1, by unfold allLe at h; rw [List.all_eq_true] at h; simpa using h z hz⟩)
theorem WordsOK.take {zs : List Int} (h : WordsOK zs) (k : Nat) : WordsOK (zs.take k) := fun z hz => h z (List.mem_of_mem_take hz)
set_option maxRecDepth 20000 in
set_option maxHeartbeats 4000000 in
theorem renc_count (x : Ci) (h : x.Good) (h1 : x.k = 1) (zs : List Int) (A : Option Addr) (N cp : Nat) (hl : zs.length = N) (hN : N = x.measuredN) (hz : WordsOK zs) (w : World) (hA : WordsAt w A zs) :
    Calls Try.prog 34 #[rvl x, .slice A N cp] w (RencR (fitsB x zs) (encL x zs) w) := by
  have e1 : encL x zs = zs := by unfold encL; rw [if_neg (by omega), if_neg (by omega), if_neg (by omega)]
  have e2 : fitsB x zs = allLe 1 zs := by
    unfold fitsB allLe Ci.mostN
    rw [if_neg (by omega), if_neg (by omega)]
    have : x.k ≠ 5 := by omega
    simp [this]
  rw [e1, e2]
  clear e1 e2
  obtain ⟨R, hR⟩ : ∃ R, allLe 1 zs = R := ⟨_, rfl⟩
  have hfz := Lib.hid (fun (e : allLe 1 zs = false) => (hR.symm.trans e : R = false))
  have hft := Lib.hid (fun (e : allLe 1 zs = true) => (hR.symm.trans e : R = true))
  rw [hR]
  clear hR
  have hO := rout_any x h
  have hz' := h.code
  unfold Ci.measuredN at hN
  obtain ⟨k, f, b, l, W, c⟩ := x
  have hC := fun w => rcheck_any k f b l W c w
  unfold rvl NumBy at *
  rw [hz'] at hC
  simp only at h1 hN
  subst h1
  rw [if_neg (by omega)] at hN
  have hN1 : N = 1 := by rw [hN]; simp [Ci.outN]
  rw [← hN] at hO
  have hN64 : N ≤ 64 := by omega
  obtain ⟨i0, hinf, hz0, hz1, hz2⟩ := info_parts info_word
  replace hinf := Lib.hid hinf
  replace hC := Lib.hid hC
  replace hO := Lib.hid hO
  replace hA := Lib.hid hA
  replace hl := Lib.hid hl
  replace hz := Lib.hid hz
  clear h hz' hN hN1
  go_enter Try.func34, Try.ntmps34
  go_upto_region 1 with (fail)
  refine name_wp (fun w1 => Below w.heap.size w w1 ∧ w1.heap[w.heap.size]? = some (.cells #[.int .i64 1, .int .i64 f, .int .i64 b, .int .i64 l, .int .i64 W, .int .i64 c] 32 (0, 0))) ⟨(Below.refl _ _).alloc (Nat.le_refl _) _, alloc_at rfl⟩ ?_
  rintro w1 ⟨hb, k0⟩
  obtain ⟨c0, c1, c2, c3, c4, c5⟩ := blk6 k0
  go_wp2_with fail
  refine call_then (hC.out _) ?_
  intro w2 hb2
  replace hb := below_next hb hb.size hb2
  replace k0 := keeps hb2 k0
  clear hb2 c0 c1 c2 c3 c4 c5
  obtain ⟨c0, c1, c2, c3, c4, c5⟩ := blk6 k0
  go_wp2_with fail
  refine call_then (hO.out _) ?_
  intro w2 hb2
  replace hb := below_next hb hb.size hb2
  replace k0 := keeps hb2 k0
  clear hb2 c0 c1 c2 c3 c4 c5
  obtain ⟨c0, c1, c2, c3, c4, c5⟩ := blk6 k0
  clear hC hO
  go_wp2
  have hBw := hb.size
  have hpB := lt_of_get k0
  obtain ⟨B0, hB0⟩ : ∃ B0, B0 = w2.heap.size := ⟨_, rfl⟩
  rw [← hB0] at hBw hpB
  have hBs : B0 ≤ w2.heap.size := Nat.le_of_eq hB0
  have hown : w2.ownsRow B0 43 1 (.slice none 0 0) 0 (wcells []) := World.ownsRow_nil _ _ _ _
  replace hBw := Lib.hid hBw
  replace hpB := Lib.hid hpB
  clear hB0 c0 c1 c2 c3 c4 c5
  go_loopw [10, 8, 9] (fun i v o wr => ∃ j S : Nat, j ≤ N ∧ S ≤ j ∧ i = .int .i64 (j : Int) ∧ o = .int .i64 (S : Int) ∧ Hid (S = ones (zs.take j)) ∧ Below w.heap.size w wr ∧ wr.heap[w.heap.size]? = some (.cells #[.int .i64 1, .int .i64 f, .int .i64 b, .int .i64 l, .int .i64 W, .int .i64 c] 32 (0, 0)) ∧ B0 ≤ wr.heap.size ∧ wr.ownsRow B0 43 1 v j (wcells (zs.take j)) ∧ Hid (allLe 1 (zs.take j) = true)) (fun i _ _ _ => N - (intOf i).toNat)
  case atStart => exact ⟨0, 0, Nat.zero_le _, Nat.le_refl _, rfl, rfl, Lib.hid rfl, hb, k0, hBs, hown, Lib.hid rfl⟩
  case round =>
    clear hb k0 hBs hown
    obtain ⟨j, S, hj, hSj, rfl, rfl, hS, hb, k0, hBs, hown, hall⟩ := hrel
    obtain ⟨c0, c1, c2, c3, c4, c5⟩ := blk6 k0
    by_cases hlt : j < N
    · have j1 : (j : Int) < (N : Int) := by omega
      have j0 : (0 : Int) ≤ (j : Int) := by omega
      obtain ⟨p, o, rfl, hc⟩ := hA.out j (by rw [hl.out]; exact hlt)
      have hc2 := (hb.cell (World.block_lt_of_cell? _ _ hc)).trans hc
      have hx := hz.out.at_ (k := j) (by rw [hl.out]; exact hlt)
      have hsn := Lib.hid (show wcells (zs.take (j + 1)) = wcells (zs.take j) ++ [.int .u64 (zs.getD j 0)] by rw [take_snocD (by rw [hl.out]; exact hlt), wcells_append]; rfl)
      have hsu := Lib.hid (show ones (zs.take (j + 1)) = ones (zs.take j) + (zs.getD j 0).toNat by rw [take_snocD (by rw [hl.out]; exact hlt), ones_append]; simp [ones])
      have hal := Lib.hid (show allLe 1 (zs.take (j + 1)) = (allLe 1 (zs.take j) && decide (zs.getD j 0 ≤ 1)) by rw [take_snocD (by rw [hl.out]; exact hlt), allLe_snoc])
      have hbad := Lib.hid (fun hn => allLe_of_take (m := 1) (l := zs) (k := j) (by rw [hl.out]; exact hlt) hn)
      generalize zs.getD j 0 = z at *
      obtain ⟨Z, rfl⟩ := Int.eq_ofNat_of_zero_le hx.1
      clear hc
      by_cases hbg : 1 < Z
      · have hd := Lib.hid (hfz.out (hbad.out (by omega)))
        have b1 : (1 : Int) < (Z : Int) := by omega
        clear hbg
        go_wp2
        go_ret2
        exact .bad hd.out ⟨rfl, hb⟩
      · have b1 : ¬ (1 : Int) < (Z : Int) := by omega
        have b2 : (Z : Int) ≤ 1 := by omega
        obtain ⟨S2, hS2⟩ : ∃ S2, S + Z = S2 := ⟨_, rfl⟩
        have hS3 : Hid (S2 = ones (zs.take (j + 1))) := Lib.hid (by rw [hsu.out, ← hS.out, Int.toNat_natCast]; omega)
        have hall2 : Hid (allLe 1 (zs.take (j + 1)) = true) := Lib.hid (by rw [hal.out, hall.out]; simpa using b2)
        have zS : (S : Int) + (Z : Int) = (S2 : Int) := by omega
        have zS2 : IntKind.i64.wrap ((S : Int) + (Z : Int)) = (S2 : Int) := wrap_i (by omega) (by omega)
        have hS4 : S2 ≤ j + 1 := by omega
        replace hS2 := Lib.hid hS2
        clear hbg
        have hown6 := Lib.hid (hown.alloc (.cells #[.int .u64 (Z : Int)] 43 (0, 0)))
        have hb6 := Lib.hid (hb.alloc hb.size (.cells #[.int .u64 (Z : Int)] 43 (0, 0)))
        have k6 := Lib.hid (alloc_keeps (o := .cells #[.int .u64 (Z : Int)] 43 (0, 0)) k0)
        have hBs6 : B0 ≤ (wr.alloc (.cells #[.int .u64 (Z : Int)] 43 (0, 0))).heap.size := Nat.le_trans hBs (by simp)
        have t1 : j + 1 ≤ maxLen := by unfold maxLen; omega
        have t2 : (j + 1) * 8 ≤ 140737488355328 := by omega
        clear hown hb k0 hBs
        go_wp2_with (at_builtin; refine wpList_append_own _ rfl _ _ 46 rfl B0 43 i0 (.int .u64 0) 1 8 Try.underlying46 hinf.out hz0 hz1 hz2 rfl (by decide) _ _ _ rfl hown6.out ⟨_, 0, none⟩ 1 1 [.int .u64 (Z : Int)] rfl rfl (news_word (by simp)) (by simp [Value.oneCell']) t1 t2 hBs6 ?_; intro v1 w7 hown7 hg7 _; have hb7 := grownn_below hb6.out hBw.out hown6.out hg7; have k7 := (hg7.block w.heap.size (lt_of_get k6.out) (fun e => by have := (hown6.out.lt _ e.symm).1; have := hpB.out; omega)).trans k6.out; have hBs7 := Nat.le_trans hBs6 hg7.size; clear hg7)
        refine ⟨⟨j + 1, S2, by omega, hS4, by go_num, rfl, hS3, hb7, k7, hBs7, ?_, hall2⟩, by simp [intOf]; omega⟩
        rw [hsn.out]
        exact hown7
    · obtain rfl : N = j := by omega
      rw [List.take_of_length_le (by rw [hl.out]; exact Nat.le_refl _)] at hown hall hS
      have j1 : ¬ (N : Int) < (N : Int) := by omega
      obtain ⟨a9, c9, rfl, hW⟩ := owns_words hown
      obtain ⟨L, hL⟩ : ∃ L, zs.length = L := ⟨_, rfl⟩
      replace hW := Lib.hid hW
      have hd := Lib.hid (hft.out hall.out)
      rw [hl.out]
      clear hown hL
      go_wp2
      go_ret2
      exact .good hd.out ⟨a9, c9, by rw [hl.out]; rfl, hb, hW.out⟩
end Go.Proofs.Ytgdokfchfgnbbaa

/-
  What is measured as a vector, as the document says: a Multihot; any circuit.
-/
namespace Go.Proofs.Ytgdokfchfgnbbaa
open Go.RowKit Flow F
set_option linter.unusedVariables false
set_option linter.unusedSimpArgs false

set_option maxRecDepth 20000 in
set_option maxHeartbeats 4000000 in
theorem renc_multi (x : Ci) (h : x.Good) (h5 : x.k = 5) (zs : List Int) (A : Option Addr) (N cp : Nat) (hl : zs.length = N) (hN : N = x.measuredN) (hz : WordsOK zs) (w : World) (hA : WordsAt w A zs) :
    Calls Try.prog 34 #[rvl x, .slice A N cp] w (RencR (fitsB x zs) (encL x zs) w) := by
  have hW := h.fits.w h5
  have hL := h.fits.l (by omega)
  obtain ⟨nW, hnW⟩ := Int.eq_ofNat_of_zero_le (show 0 ≤ x.w by omega)
  have e1 : encL x zs = zs ++ bitsL ((wsum zs).toNat + offN nW) (Lib.bitLen nW) := by unfold encL; rw [if_neg (by omega), if_neg (by omega), if_pos h5, hnW]; simp
  have e2 : fitsB x zs = (allLe 1 zs && decide (wsum zs ≤ (nW : Int))) := by
    unfold fitsB allLe Ci.mostN
    rw [if_neg (by omega), if_neg (by omega), hnW]
    simp [h5]
  rw [e1, e2]
  clear e1 e2
  have hN64 : N ≤ 64 := by
    rw [hN]; unfold Ci.measuredN Ci.outN
    rw [if_neg (by omega), if_neg (by omega)]
    omega
  have hsum : allLe 1 zs = true → wsum zs = (ones zs : Int) := fun e => ones_wsum (fun z hz' => ⟨(hz z hz').1, by unfold allLe at e; rw [List.all_eq_true] at e; simpa using e z hz'⟩) (by omega)
  obtain ⟨R, hR⟩ : ∃ R, (allLe 1 zs && decide (wsum zs ≤ (nW : Int))) = R := ⟨_, rfl⟩
  have hfz := Lib.hid (fun (e : allLe 1 zs = false) => (hR.symm.trans (by rw [e]; rfl) : R = false))
  have hft := Lib.hid (fun (e : allLe 1 zs = true) => (hR.symm.trans (by rw [e, hsum e, Bool.true_and]) : R = decide ((ones zs : Int) ≤ (nW : Int))))
  rw [hR]
  clear hR
  have hO := rout_any x h
  have hz' := h.code
  unfold Ci.measuredN at hN
  obtain ⟨k, f, b, l, W, c⟩ := x
  have hC := fun w => rcheck_any k f b l W c w
  unfold rvl NumBy at *
  rw [hz'] at hC
  simp only at h5 hN hW hL hnW
  subst h5 hnW
  rw [if_neg (by omega)] at hN
  rw [← hN] at hO
  have hof := Lib.hid (fun w => roffset_any 5 f b l c nW (by omega) w)
  have hwb := Lib.hid (fun w => rwb_any 5 f b l (nW : Int) c (by omega) (by omega) w)
  simp only [Int.toNat_natCast] at hwb
  have hole := offN_le (W := nW) (by omega)
  have hble := bl_le (W := nW) (by omega)
  generalize offN nW = O at *
  generalize Lib.bitLen nW = Bw at *
  replace hsum := Lib.hid hsum
  obtain ⟨i0, hinf, hz0, hz1, hz2⟩ := info_parts info_word
  replace hinf := Lib.hid hinf
  replace hC := Lib.hid hC
  replace hO := Lib.hid hO
  replace hA := Lib.hid hA
  replace hl := Lib.hid hl
  replace hz := Lib.hid hz
  clear h hz' hN
  go_enter Try.func34, Try.ntmps34
  go_upto_region 1 with (fail)
  refine name_wp (fun w1 => Below w.heap.size w w1 ∧ w1.heap[w.heap.size]? = some (.cells #[.int .i64 5, .int .i64 f, .int .i64 b, .int .i64 l, .int .i64 (nW : Int), .int .i64 c] 32 (0, 0))) ⟨(Below.refl _ _).alloc (Nat.le_refl _) _, alloc_at rfl⟩ ?_
  rintro w1 ⟨hb, k0⟩
  obtain ⟨c0, c1, c2, c3, c4, c5⟩ := blk6 k0
  go_wp2_with fail
  refine call_then (hC.out _) ?_
  intro w2 hb2
  replace hb := below_next hb hb.size hb2
  replace k0 := keeps hb2 k0
  clear hb2 c0 c1 c2 c3 c4 c5
  obtain ⟨c0, c1, c2, c3, c4, c5⟩ := blk6 k0
  go_wp2_with fail
  refine call_then (hO.out _) ?_
  intro w2 hb2
  replace hb := below_next hb hb.size hb2
  replace k0 := keeps hb2 k0
  clear hb2 c0 c1 c2 c3 c4 c5
  obtain ⟨c0, c1, c2, c3, c4, c5⟩ := blk6 k0
  clear hC hO
  go_wp2
  have hBw := hb.size
  have hpB := lt_of_get k0
  obtain ⟨B0, hB0⟩ : ∃ B0, B0 = w2.heap.size := ⟨_, rfl⟩
  rw [← hB0] at hBw hpB
  have hBs : B0 ≤ w2.heap.size := Nat.le_of_eq hB0
  have hown : w2.ownsRow B0 43 1 (.slice none 0 0) 0 (wcells []) := World.ownsRow_nil _ _ _ _
  replace hBw := Lib.hid hBw
  replace hpB := Lib.hid hpB
  clear hB0 c0 c1 c2 c3 c4 c5
  go_loopw [10, 8, 9] (fun i v o wr => ∃ j S : Nat, j ≤ N ∧ S ≤ j ∧ i = .int .i64 (j : Int) ∧ o = .int .i64 (S : Int) ∧ Hid (S = ones (zs.take j)) ∧ Below w.heap.size w wr ∧ wr.heap[w.heap.size]? = some (.cells #[.int .i64 5, .int .i64 f, .int .i64 b, .int .i64 l, .int .i64 (nW : Int), .int .i64 c] 32 (0, 0)) ∧ B0 ≤ wr.heap.size ∧ wr.ownsRow B0 43 1 v j (wcells (zs.take j)) ∧ Hid (allLe 1 (zs.take j) = true)) (fun i _ _ _ => N - (intOf i).toNat)
  case atStart => exact ⟨0, 0, Nat.zero_le _, Nat.le_refl _, rfl, rfl, Lib.hid rfl, hb, k0, hBs, hown, Lib.hid rfl⟩
  case round =>
    clear hb k0 hBs hown
    obtain ⟨j, S, hj, hSj, rfl, rfl, hS, hb, k0, hBs, hown, hall⟩ := hrel
    obtain ⟨c0, c1, c2, c3, c4, c5⟩ := blk6 k0
    by_cases hlt : j < N
    · have j1 : (j : Int) < (N : Int) := by omega
      have j0 : (0 : Int) ≤ (j : Int) := by omega
      obtain ⟨p, o, rfl, hc⟩ := hA.out j (by rw [hl.out]; exact hlt)
      have hc2 := (hb.cell (World.block_lt_of_cell? _ _ hc)).trans hc
      have hx := hz.out.at_ (k := j) (by rw [hl.out]; exact hlt)
      have hsn := Lib.hid (show wcells (zs.take (j + 1)) = wcells (zs.take j) ++ [.int .u64 (zs.getD j 0)] by rw [take_snocD (by rw [hl.out]; exact hlt), wcells_append]; rfl)
      have hsu := Lib.hid (show ones (zs.take (j + 1)) = ones (zs.take j) + (zs.getD j 0).toNat by rw [take_snocD (by rw [hl.out]; exact hlt), ones_append]; simp [ones])
      have hal := Lib.hid (show allLe 1 (zs.take (j + 1)) = (allLe 1 (zs.take j) && decide (zs.getD j 0 ≤ 1)) by rw [take_snocD (by rw [hl.out]; exact hlt), allLe_snoc])
      have hbad := Lib.hid (fun hn => allLe_of_take (m := 1) (l := zs) (k := j) (by rw [hl.out]; exact hlt) hn)
      generalize zs.getD j 0 = z at *
      obtain ⟨Z, rfl⟩ := Int.eq_ofNat_of_zero_le hx.1
      clear hc
      by_cases hbg : 1 < Z
      · have hd := Lib.hid (hfz.out (hbad.out (by omega)))
        have b1 : (1 : Int) < (Z : Int) := by omega
        clear hbg
        go_wp2
        go_ret2
        exact .bad hd.out ⟨rfl, hb⟩
      · have b1 : ¬ (1 : Int) < (Z : Int) := by omega
        have b2 : (Z : Int) ≤ 1 := by omega
        obtain ⟨S2, hS2⟩ : ∃ S2, S + Z = S2 := ⟨_, rfl⟩
        have hS3 : Hid (S2 = ones (zs.take (j + 1))) := Lib.hid (by rw [hsu.out, ← hS.out, Int.toNat_natCast]; omega)
        have hall2 : Hid (allLe 1 (zs.take (j + 1)) = true) := Lib.hid (by rw [hal.out, hall.out]; simpa using b2)
        have zS : (S : Int) + (Z : Int) = (S2 : Int) := by omega
        have zS2 : IntKind.i64.wrap ((S : Int) + (Z : Int)) = (S2 : Int) := wrap_i (by omega) (by omega)
        have hS4 : S2 ≤ j + 1 := by omega
        replace hS2 := Lib.hid hS2
        clear hbg
        have hown6 := Lib.hid (hown.alloc (.cells #[.int .u64 (Z : Int)] 43 (0, 0)))
        have hb6 := Lib.hid (hb.alloc hb.size (.cells #[.int .u64 (Z : Int)] 43 (0, 0)))
        have k6 := Lib.hid (alloc_keeps (o := .cells #[.int .u64 (Z : Int)] 43 (0, 0)) k0)
        have hBs6 : B0 ≤ (wr.alloc (.cells #[.int .u64 (Z : Int)] 43 (0, 0))).heap.size := Nat.le_trans hBs (by simp)
        have t1 : j + 1 ≤ maxLen := by unfold maxLen; omega
        have t2 : (j + 1) * 8 ≤ 140737488355328 := by omega
        clear hown hb k0 hBs
        go_wp2_with (at_builtin; refine wpList_append_own _ rfl _ _ 46 rfl B0 43 i0 (.int .u64 0) 1 8 Try.underlying46 hinf.out hz0 hz1 hz2 rfl (by decide) _ _ _ rfl hown6.out ⟨_, 0, none⟩ 1 1 [.int .u64 (Z : Int)] rfl rfl (news_word (by simp)) (by simp [Value.oneCell']) t1 t2 hBs6 ?_; intro v1 w7 hown7 hg7 _; have hb7 := grownn_below hb6.out hBw.out hown6.out hg7; have k7 := (hg7.block w.heap.size (lt_of_get k6.out) (fun e => by have := (hown6.out.lt _ e.symm).1; have := hpB.out; omega)).trans k6.out; have hBs7 := Nat.le_trans hBs6 hg7.size; clear hg7)
        refine ⟨⟨j + 1, S2, by omega, hS4, by go_num, rfl, hS3, hb7, k7, hBs7, ?_, hall2⟩, by simp [intOf]; omega⟩
        rw [hsn.out]
        exact hown7
    · obtain rfl : N = j := by omega
      rw [List.take_of_length_le (by rw [hl.out]; exact Nat.le_refl _)] at hown hall hS
      have j1 : ¬ (N : Int) < (N : Int) := by omega
      have hs := hsum.out hall.out
      have hs0 : Hid (wsum zs = (S : Int)) := Lib.hid (by rw [hs, ← hS.out])
      have hft2 := hft.out hall.out
      rw [← hS.out] at hs hft2
      by_cases hgt : nW < S
      · have hd := Lib.hid (hft2.trans (show decide ((S : Int) ≤ (nW : Int)) = false by simp; omega))
        have b1 : (nW : Int) < (S : Int) := by omega
        clear hgt hft2 hs
        go_wp2
        go_ret2
        exact .bad hd.out ⟨rfl, hb⟩
      · have hd := Lib.hid (hft2.trans (show decide ((S : Int) ≤ (nW : Int)) = true by simp; omega))
        have b1 : ¬ (nW : Int) < (S : Int) := by omega
        obtain ⟨T, hT⟩ : ∃ T, S + O = T := ⟨_, rfl⟩
        have zT : (S : Int) + (O : Int) = (T : Int) := by omega
        have zT2 : IntKind.i64.wrap ((S : Int) + (O : Int)) = (T : Int) := wrap_i (by omega) (by omega)
        have hT2 : T ≤ 300 := by omega
        replace hT := Lib.hid hT
        clear hgt hft2 hs
        go_wp2_with fail
        refine call_then (hof.out _) ?_
        intro w4 hv
        replace hb := below_next hb hb.size hv
        replace k0 := keeps hv k0
        replace hown := ownsn_up hown hv
        replace hBs := Nat.le_trans hBs hv.size
        clear hv c0 c1 c2 c3 c4 c5
        go_wp2
        have hown0 : w4.ownsRow B0 43 1 u8 (N + 0) (wcells (zs ++ bitsL T 0)) := by
          rw [show bitsL T 0 = [] from rfl, List.append_nil]; exact hown
        clear hown
        go_loopw [16, 8, 15] (fun i v n wr => ∃ q V : Nat, q ≤ Bw ∧ i = .int .i64 (q : Int) ∧ n = .int .i64 (V : Int) ∧ V ≤ 300 ∧ Hid (V = T / 2 ^ q) ∧ Below w.heap.size w wr ∧ wr.heap[w.heap.size]? = some (.cells #[.int .i64 5, .int .i64 f, .int .i64 b, .int .i64 l, .int .i64 (nW : Int), .int .i64 c] 32 (0, 0)) ∧ B0 ≤ wr.heap.size ∧ wr.ownsRow B0 43 1 v (N + q) (wcells (zs ++ bitsL T q))) (fun i _ _ _ => Bw - (intOf i).toNat)
        case atStart => exact ⟨0, T, Nat.zero_le _, rfl, rfl, hT2, Lib.hid (by rw [Nat.pow_zero, Nat.div_one]), hb, k0, hBs, hown0⟩
        case round =>
          clear hb k0 hBs hown0
          obtain ⟨q, V, hq, rfl, rfl, hV1, hV, hb, k0, hBs, hown⟩ := hrel
          obtain ⟨c0, c1, c2, c3, c4, c5⟩ := blk6 k0
          go_wp2_with fail
          refine call_then (hwb.out _) ?_
          intro wr hv
          replace hb := below_next hb hb.size hv
          replace k0 := keeps hv k0
          replace hown := ownsn_up hown hv
          replace hBs := Nat.le_trans hBs hv.size
          clear hv c0 c1 c2 c3 c4 c5
          by_cases hltq : q < Bw
          · have q1 : (q : Int) < (Bw : Int) := by omega
            have q0 : (0 : Int) ≤ (q : Int) := by omega
            obtain ⟨Bt, hBt⟩ : ∃ Bt : Nat, V % 2 = Bt := ⟨_, rfl⟩
            have zb1 : (V : Int).tmod 2 = (Bt : Int) := by rw [← hBt]; rfl
            have zb2 : (V : Int) % 2 = (Bt : Int) := by omega
            obtain ⟨V2, hV2⟩ : ∃ V2 : Nat, V / 2 = V2 := ⟨_, rfl⟩
            have zv1 : (V : Int).tdiv 2 = (V2 : Int) := by rw [← hV2]; rfl
            have zv2 : (V : Int) / 2 = (V2 : Int) := by omega
            have zw1 : IntKind.u64.wrap (Bt : Int) = (Bt : Int) := by rw [IntKind.wrap_u64]; omega
            have zw3 : IntKind.i64.wrap (Bt : Int) = (Bt : Int) := wrap_i rfl (by omega)
            have zw2 : IntKind.i64.wrap (V2 : Int) = (V2 : Int) := wrap_i rfl (by omega)
            have hbs := Lib.hid (show wcells (zs ++ bitsL T (q + 1)) = wcells (zs ++ bitsL T q) ++ [.int .u64 (Bt : Int)] by
              rw [bitsL_snoc, ← List.append_assoc, wcells_append]
              have : bitN T q = Bt := by rw [← hBt, hV.out]; rfl
              rw [this]
              rfl)
            have hV3 : Hid (V2 = T / 2 ^ (q + 1)) := Lib.hid (by rw [← hV2, hV.out, Nat.div_div_eq_div_mul, Nat.pow_succ])
            have hV4 : V2 ≤ 300 := by omega
            replace hBt := Lib.hid hBt
            replace hV2 := Lib.hid hV2
            have hown6 := Lib.hid (hown.alloc (.cells #[.int .u64 (Bt : Int)] 43 (0, 0)))
            have hb6 := Lib.hid (hb.alloc hb.size (.cells #[.int .u64 (Bt : Int)] 43 (0, 0)))
            have k6 := Lib.hid (alloc_keeps (o := .cells #[.int .u64 (Bt : Int)] 43 (0, 0)) k0)
            have hBs6 : B0 ≤ (wr.alloc (.cells #[.int .u64 (Bt : Int)] 43 (0, 0))).heap.size := Nat.le_trans hBs (by simp)
            have t1 : (N + q) + 1 ≤ maxLen := by unfold maxLen; omega
            have t2 : ((N + q) + 1) * 8 ≤ 140737488355328 := by omega
            clear hown hb k0 hBs
            go_wp2_with (at_builtin; refine wpList_append_own _ rfl _ _ 46 rfl B0 43 i0 (.int .u64 0) 1 8 Try.underlying46 hinf.out hz0 hz1 hz2 rfl (by decide) _ _ _ rfl hown6.out ⟨_, 0, none⟩ 1 1 [.int .u64 (Bt : Int)] rfl rfl (news_word (by simp)) (by simp [Value.oneCell']) t1 t2 hBs6 ?_; intro v1 w7 hown7 hg7 _; have hb7 := grownn_below hb6.out hBw.out hown6.out hg7; have k7 := (hg7.block w.heap.size (lt_of_get k6.out) (fun e => by have := (hown6.out.lt _ e.symm).1; have := hpB.out; omega)).trans k6.out; have hBs7 := Nat.le_trans hBs6 hg7.size; clear hg7)
            refine ⟨⟨q + 1, V2, by omega, by go_num, rfl, hV4, hV3, hb7, k7, hBs7, ?_⟩, by simp [intOf]; omega⟩
            rw [hbs.out]
            exact hown7
          · obtain rfl : Bw = q := by omega
            have q1 : ¬ (Bw : Int) < (Bw : Int) := by omega
            obtain ⟨a9, c9, rfl, hW⟩ := owns_words hown
            obtain ⟨L, hL⟩ : ∃ L, zs ++ bitsL T Bw = L := ⟨_, rfl⟩
            rw [hL] at hW ⊢
            replace hL := Lib.hid hL
            replace hW := Lib.hid hW
            clear hown
            go_wp2
            go_ret2
            refine .good hd.out ⟨a9, c9, ?_, hb, ?_⟩
            · rw [hs0.out, Int.toNat_natCast, hT.out, hL.out]; rfl
            · rw [hs0.out, Int.toNat_natCast, hT.out, hL.out]; exact hW.out
/-- The document's Encode. -/
theorem renc_ok (x : Ci) (h : x.Good) (zs : List Int) (A : Option Addr) (N cp : Nat) (hl : zs.length = N) (hN : N = x.measuredN) (hz : WordsOK zs) (w : World) (hA : WordsAt w A zs) :
    Calls Try.prog 34 #[rvl x, .slice A N cp] w (RencR (fitsB x zs) (encL x zs) w) := by
  have hk := h.fits.k1
  have hk5 := h.fits.k5
  have hc : x.k = 1 ∨ (x.k = 2 ∨ x.k = 3) ∨ x.k = 4 ∨ x.k = 5 := by omega
  rcases hc with e | e | e | e
  · exact renc_count x h e zs A N cp hl hN hz w hA
  · exact renc_bits x h e zs A N cp hl hN hz w hA
  · exact renc_hist x h e zs A N cp hl hN hz w hA
  · exact renc_multi x h e zs A N cp hl hN hz w hA
end Go.Proofs.Ytgdokfchfgnbbaa

/-
  The law's numbers that may be measured: some numbers.
-/
namespace Go.Proofs.Ytgdokfchfgnbbaa
open Go.RowKit Flow F
set_option linter.unusedVariables false
set_option linter.unusedSimpArgs false

def MeasOut (w : World) (e : Ending) (w' : World) : Prop := ∃ (A : Option Addr) (zs : List Int) (c : Nat), e = .returned (.slice A zs.length c) ∧ Below w.heap.size w w' ∧ WordsOK zs ∧ zs.length ≤ 64 ∧ WordsAt w' A zs
theorem owns_words2 {w : World} {base : Nat} {v : Value} {L : List Int} (h : w.ownsRow base 43 1 v L.length (wcells L)) : ∃ a c, v = .slice a L.length c ∧ WordsAt w a L := owns_words h
theorem mod_two (V : Nat) : ∃ V2 : Nat, V2 ≤ 1 ∧ (V : Int).tmod 2 = (V2 : Int) ∧ (V : Int) % 2 = (V2 : Int) ∧ IntKind.u64.wrap (V2 : Int) = (V2 : Int) := ⟨V % 2, by omega, rfl, by omega, by rw [IntKind.wrap_u64]; omega⟩
set_option maxRecDepth 20000 in
set_option maxHeartbeats 8000000 in
theorem measure_any (x : Ci) (h : x.Good) (rs : List Int) (A : Option Addr) (N cp : Nat) (hl : rs.length = N) (hm : N ≤ 100) (hr : WordsOK rs) (w : World) (hA : WordsAt w A rs) : Calls Try.prog 32 #[cvl x, .slice A N cp] w (MeasOut w) := by
  have hO := out_any x h
  have hb2 := h.fits.b
  have hL := h.fits.l
  have hW := h.fits.w
  have hW0 := h.fits.w0
  have hk := And.intro h.fits.k1 h.fits.k5
  have hO64 : x.outN ≤ 64 := by
    unfold Ci.outN
    split <;> omega
  obtain ⟨k, f, b, l, W, c⟩ := x
  unfold cvl NumBy at *
  simp only at hb2 hL hW hW0 hk
  generalize (Ci.mk k f b l W c).outN = O at *
  obtain ⟨i0, hinf, hz0, hz1, hz2⟩ := info_parts info_word
  replace hinf := Lib.hid hinf
  replace hO := Lib.hid hO
  replace hA := Lib.hid hA
  replace hl := Lib.hid hl
  replace hr := Lib.hid hr
  obtain ⟨n4, hn4, hn4b⟩ : ∃ n4 : Nat, n4 ≤ 64 ∧ n4 = if k = 4 then 1 else O := ⟨_, by split <;> omega, rfl⟩
  replace hn4b := Lib.hid hn4b
  clear h
  replace hb2 := Lib.hid hb2
  replace hL := Lib.hid hL
  replace hW := Lib.hid hW
  replace hW0 := Lib.hid hW0
  replace hk := Lib.hid hk
  go_enter Try.func32, Try.ntmps32
  go_upto_region 1 with (fail)
  refine name_wp (fun w1 => Below w.heap.size w w1 ∧ w1.heap[w.heap.size]? = some (.cells #[.int .u8 k, .int .u8 f, .int .i64 b, .int .i64 l, .int .i64 W, .int .i64 c] 25 (0, 0))) ⟨(Below.refl _ _).alloc (Nat.le_refl _) _, alloc_at rfl⟩ ?_
  rintro w1 ⟨hb, k0⟩
  obtain ⟨c0, c1, c2, c3, c4, c5⟩ := blk6 k0
  go_wp2_with fail
  refine call_then (hO.out _) ?_
  intro w2 hv
  replace hb := below_next hb hb.size hv
  replace k0 := keeps hv k0
  clear hv c0 c1 c2 c3 c4 c5 hO
  obtain ⟨c0, c1, c2, c3, c4, c5⟩ := blk6 k0
  go_upto_if 14 with (fail)
  go_cut [6] (fun v w' => v = .int .i64 (n4 : Int) ∧ w' = w2)
  case first =>
    by_cases h4 : k = 4
    · have hn := hn4b.out
      rw [if_pos h4] at hn
      subst h4
      replace hn := Lib.hid hn
      go_wp2
      go_meet
      exact ⟨by rw [hn.out]; first | done | rfl, rfl⟩
    · have hn := hn4b.out
      rw [if_neg h4] at hn
      have e4 : (k == 4) = false := by simpa using h4
      clear h4
      replace hn := Lib.hid hn
      go_wp2
      go_meet
      exact ⟨by rw [hn.out]; first | done | rfl, rfl⟩
  case rest =>
    obtain ⟨rfl, rfl⟩ := hcut
    go_wp2
    have hBw := hb.size
    have hpB := lt_of_get k0
    obtain ⟨B0, hB0⟩ : ∃ B0, B0 = wc.heap.size := ⟨_, rfl⟩
    rw [← hB0] at hBw hpB
    have hBs : B0 ≤ wc.heap.size := Nat.le_of_eq hB0
    have hown : wc.ownsRow B0 43 1 (.slice none 0 0) 0 (wcells []) := World.ownsRow_nil _ _ _ _
    replace hBw := Lib.hid hBw
    replace hpB := Lib.hid hpB
    clear hB0 c0 c1 c2 c3 c4 c5
    go_loopw [16, 5, 7] (fun i v o wr => ∃ (j S : Nat) (zs : List Int), j ≤ n4 ∧ S ≤ j ∧ i = .int .i64 (j : Int) ∧ o = .int .i64 (S : Int) ∧ Hid (zs.length = j) ∧ Below w.heap.size w wr ∧ wr.heap[w.heap.size]? = some (.cells #[.int .u8 k, .int .u8 f, .int .i64 b, .int .i64 l, .int .i64 W, .int .i64 c] 25 (0, 0)) ∧ B0 ≤ wr.heap.size ∧ wr.ownsRow B0 43 1 v j (wcells zs) ∧ Hid (WordsOK zs)) (fun i _ _ _ => n4 - (intOf i).toNat)
    case atStart => exact ⟨0, 0, [], Nat.zero_le _, Nat.le_refl _, rfl, rfl, Lib.hid rfl, hb, k0, hBs, hown, Lib.hid (fun z hz => by cases hz)⟩
    case round =>
      clear hb k0 hBs hown
      obtain ⟨j, S, zs, hj, hSj, rfl, rfl, hzl, hb, k0, hBs, hown, hzo⟩ := hrel
      obtain ⟨c0, c1, c2, c3, c4, c5⟩ := blk6 k0
      by_cases hlt : j < n4
      · have j1 : (j : Int) < (n4 : Int) := by omega
        have j0 : (0 : Int) ≤ (j : Int) := by omega
        obtain ⟨wo, hwo⟩ : ∃ wo, wo = wr := ⟨_, rfl⟩
        go_upto_if 21 with (fail)
        go_cut [9] (fun v w' => ∃ V : Nat, V < 18446744073709551616 ∧ v = .int .u64 (V : Int) ∧ w' = wo)
        case first =>
          by_cases hN0 : 0 < N
          · have n1 : (0 : Int) < (N : Int) := by omega
            obtain ⟨q, hq⟩ : ∃ q, j % N = q := ⟨_, rfl⟩
            have hqN : q < N := by rw [← hq]; exact Nat.mod_lt _ hN0
            have hti : (j : Int).tmod (N : Int) = (q : Int) := by rw [← hq]; rfl
            have hti2 : (j : Int) % (N : Int) = (q : Int) := by rw [← hq]; rfl
            have hnz : ((N : Int) == 0) = false := by simp; omega
            have q1 : (q : Int) < (N : Int) := by omega
            have q0 : (0 : Int) ≤ (q : Int) := by omega
            have hqw : IntKind.i64.wrap (q : Int) = (q : Int) := wrap_i rfl (by omega)
            obtain ⟨p, o, rfl, hc⟩ := hA.out q (by rw [hl.out]; exact hqN)
            have hc2 := (hb.cell (World.block_lt_of_cell? _ _ hc)).trans hc
            have hx := hr.out.at_ (k := q) (by rw [hl.out]; exact hqN)
            generalize rs.getD q 0 = z at *
            obtain ⟨Z, rfl⟩ := Int.eq_ofNat_of_zero_le hx.1
            replace hq := Lib.hid hq
            replace hwo := Lib.hid hwo
            clear hc
            go_wp2
            go_meet
            exact ⟨Z, by omega, rfl, hwo.out.symm⟩
          · obtain rfl : N = 0 := by omega
            replace hwo := Lib.hid hwo
            go_wp2
            go_meet
            exact ⟨0, by omega, rfl, hwo.out.symm⟩
        case rest =>
          obtain ⟨V, hV, rfl, hwc⟩ := hcut
          subst hwo
          subst hwc
          have hkc : k = 1 ∨ k = 2 ∨ k = 3 ∨ k = 4 ∨ k = 5 := by have := hk.out; omega
          rcases hkc with rfl | rfl | rfl | rfl | rfl
          · obtain ⟨V2, hV2, z1, z2, z3⟩ := mod_two V
            obtain ⟨S2, hS2, z4, z5⟩ : ∃ S2 : Nat, S + V2 = S2 ∧ (S : Int) + (V2 : Int) = (S2 : Int) ∧ IntKind.i64.wrap ((S : Int) + (V2 : Int)) = (S2 : Int) := ⟨_, rfl, by omega, wrap_i (by omega) (by omega)⟩
            have z6 : IntKind.i64.wrap (V2 : Int) = (V2 : Int) := wrap_i rfl (by omega)
            have hS3 : S2 ≤ j + 1 := by omega
            replace hS2 := Lib.hid hS2
            have hown6 := Lib.hid (hown.alloc (.cells #[.int .u64 ((V2 : Int))] 43 (0, 0)))
            have hb6 := Lib.hid (hb.alloc hb.size (.cells #[.int .u64 ((V2 : Int))] 43 (0, 0)))
            have k6 := Lib.hid (alloc_keeps (o := .cells #[.int .u64 ((V2 : Int))] 43 (0, 0)) k0)
            have hBs6 : B0 ≤ (wc.alloc (.cells #[.int .u64 ((V2 : Int))] 43 (0, 0))).heap.size := Nat.le_trans hBs (by simp)
            have t1 : j + 1 ≤ maxLen := by unfold maxLen; omega
            have t2 : (j + 1) * 8 ≤ 140737488355328 := by omega
            clear hown hb k0 hBs
            go_wp2_with (at_builtin; refine wpList_append_own _ rfl _ _ 47 rfl B0 43 i0 (.int .u64 0) 1 8 Try.underlying47 hinf.out hz0 hz1 hz2 rfl (by decide) _ _ _ rfl hown6.out ⟨_, 0, none⟩ 1 1 [.int .u64 ((V2 : Int))] rfl rfl (news_word (by simp)) (by simp [Value.oneCell']) t1 t2 hBs6 ?_; intro v1 w7 hown7 hg7 _; have hb7 := grownn_below hb6.out hBw.out hown6.out hg7; have k7 := (hg7.block w.heap.size (lt_of_get k6.out) (fun e => by have := (hown6.out.lt _ e.symm).1; have := hpB.out; omega)).trans k6.out; have hBs7 := Nat.le_trans hBs6 hg7.size; clear hg7)
            exact ⟨⟨j + 1, S2, zs ++ [(V2 : Int)], by omega, by omega, by go_num, rfl, by rw [List.length_append, hzl.out]; rfl, hb7, k7, hBs7, (by rw [wcells_append]; exact hown7), fun z hz => by
              rcases List.mem_append.1 hz with h | h
              · exact hzo.out z h
              · rw [List.mem_singleton.1 h]; omega⟩, by simp [intOf]; omega⟩
          · have hbb := hb2.out (.inl rfl)
            obtain ⟨nb, hnb⟩ := Int.eq_ofNat_of_zero_le (show 0 ≤ b by omega)
            subst hnb
            have hp := pow_le32 (b := nb) (by omega)
            have hp1 := Nat.one_le_two_pow (n := nb)
            have hsh : ((1 : Int) * 2 ^ nb) = ((2 ^ nb : Nat) : Int) := by simp
            obtain ⟨Y, hY⟩ : ∃ Y, Y = 2 ^ nb := ⟨_, rfl⟩
            rw [← hY] at hp hp1 hsh
            have hwr : IntKind.u64.wrap ((1 : Int) * 2 ^ nb) = (Y : Int) := by rw [hsh, IntKind.wrap_u64]; omega
            have hwr2 : IntKind.u64.wrap ((2 : Int) ^ nb) = (Y : Int) := by rw [← hwr]; simp
            have hwr3 : ((2 : Int) ^ nb) = (Y : Int) := by rw [← hsh]; simp
            obtain ⟨V2, hV2⟩ : ∃ V2 : Nat, V % Y = V2 := ⟨_, rfl⟩
            have hVl : V2 < Y := by rw [← hV2]; exact Nat.mod_lt _ (by omega)
            have z1 : (V : Int).tmod (Y : Int) = (V2 : Int) := by rw [← hV2]; rfl
            have z2 : (V : Int) % (Y : Int) = (V2 : Int) := by rw [← hV2]; rfl
            have z3 : IntKind.u64.wrap (V2 : Int) = (V2 : Int) := by rw [IntKind.wrap_u64]; omega
            have z4 : ((Y : Int) == 0) = false := by simp; omega
            replace hV2 := Lib.hid hV2
            replace hY := Lib.hid hY
            clear hsh
            have hown6 := Lib.hid (hown.alloc (.cells #[.int .u64 ((V2 : Int))] 43 (0, 0)))
            have hb6 := Lib.hid (hb.alloc hb.size (.cells #[.int .u64 ((V2 : Int))] 43 (0, 0)))
            have k6 := Lib.hid (alloc_keeps (o := .cells #[.int .u64 ((V2 : Int))] 43 (0, 0)) k0)
            have hBs6 : B0 ≤ (wc.alloc (.cells #[.int .u64 ((V2 : Int))] 43 (0, 0))).heap.size := Nat.le_trans hBs (by simp)
            have t1 : j + 1 ≤ maxLen := by unfold maxLen; omega
            have t2 : (j + 1) * 8 ≤ 140737488355328 := by omega
            clear hown hb k0 hBs
            go_wp2_with (at_builtin; refine wpList_append_own _ rfl _ _ 47 rfl B0 43 i0 (.int .u64 0) 1 8 Try.underlying47 hinf.out hz0 hz1 hz2 rfl (by decide) _ _ _ rfl hown6.out ⟨_, 0, none⟩ 1 1 [.int .u64 ((V2 : Int))] rfl rfl (news_word (by simp)) (by simp [Value.oneCell']) t1 t2 hBs6 ?_; intro v1 w7 hown7 hg7 _; have hb7 := grownn_below hb6.out hBw.out hown6.out hg7; have k7 := (hg7.block w.heap.size (lt_of_get k6.out) (fun e => by have := (hown6.out.lt _ e.symm).1; have := hpB.out; omega)).trans k6.out; have hBs7 := Nat.le_trans hBs6 hg7.size; clear hg7)
            exact ⟨⟨j + 1, S, zs ++ [(V2 : Int)], by omega, by omega, by go_num, rfl, by rw [List.length_append, hzl.out]; rfl, hb7, k7, hBs7, (by rw [wcells_append]; exact hown7), fun z hz => by
              rcases List.mem_append.1 hz with h | h
              · exact hzo.out z h
              · rw [List.mem_singleton.1 h]; omega⟩, by simp [intOf]; omega⟩
          · have hbb := hb2.out (.inr rfl)
            obtain ⟨nb, hnb⟩ := Int.eq_ofNat_of_zero_le (show 0 ≤ b by omega)
            subst hnb
            have hp := pow_le32 (b := nb) (by omega)
            have hp1 := Nat.one_le_two_pow (n := nb)
            have hsh : ((1 : Int) * 2 ^ nb) = ((2 ^ nb : Nat) : Int) := by simp
            obtain ⟨Y, hY⟩ : ∃ Y, Y = 2 ^ nb := ⟨_, rfl⟩
            rw [← hY] at hp hp1 hsh
            have hwr : IntKind.u64.wrap ((1 : Int) * 2 ^ nb) = (Y : Int) := by rw [hsh, IntKind.wrap_u64]; omega
            have hwr2 : IntKind.u64.wrap ((2 : Int) ^ nb) = (Y : Int) := by rw [← hwr]; simp
            have hwr3 : ((2 : Int) ^ nb) = (Y : Int) := by rw [← hsh]; simp
            obtain ⟨V2, hV2⟩ : ∃ V2 : Nat, V % Y = V2 := ⟨_, rfl⟩
            have hVl : V2 < Y := by rw [← hV2]; exact Nat.mod_lt _ (by omega)
            have z1 : (V : Int).tmod (Y : Int) = (V2 : Int) := by rw [← hV2]; rfl
            have z2 : (V : Int) % (Y : Int) = (V2 : Int) := by rw [← hV2]; rfl
            have z3 : IntKind.u64.wrap (V2 : Int) = (V2 : Int) := by rw [IntKind.wrap_u64]; omega
            have z4 : ((Y : Int) == 0) = false := by simp; omega
            replace hV2 := Lib.hid hV2
            replace hY := Lib.hid hY
            clear hsh
            have hown6 := Lib.hid (hown.alloc (.cells #[.int .u64 ((V2 : Int))] 43 (0, 0)))
            have hb6 := Lib.hid (hb.alloc hb.size (.cells #[.int .u64 ((V2 : Int))] 43 (0, 0)))
            have k6 := Lib.hid (alloc_keeps (o := .cells #[.int .u64 ((V2 : Int))] 43 (0, 0)) k0)
            have hBs6 : B0 ≤ (wc.alloc (.cells #[.int .u64 ((V2 : Int))] 43 (0, 0))).heap.size := Nat.le_trans hBs (by simp)
            have t1 : j + 1 ≤ maxLen := by unfold maxLen; omega
            have t2 : (j + 1) * 8 ≤ 140737488355328 := by omega
            clear hown hb k0 hBs
            go_wp2_with (at_builtin; refine wpList_append_own _ rfl _ _ 47 rfl B0 43 i0 (.int .u64 0) 1 8 Try.underlying47 hinf.out hz0 hz1 hz2 rfl (by decide) _ _ _ rfl hown6.out ⟨_, 0, none⟩ 1 1 [.int .u64 ((V2 : Int))] rfl rfl (news_word (by simp)) (by simp [Value.oneCell']) t1 t2 hBs6 ?_; intro v1 w7 hown7 hg7 _; have hb7 := grownn_below hb6.out hBw.out hown6.out hg7; have k7 := (hg7.block w.heap.size (lt_of_get k6.out) (fun e => by have := (hown6.out.lt _ e.symm).1; have := hpB.out; omega)).trans k6.out; have hBs7 := Nat.le_trans hBs6 hg7.size; clear hg7)
            exact ⟨⟨j + 1, S, zs ++ [(V2 : Int)], by omega, by omega, by go_num, rfl, by rw [List.length_append, hzl.out]; rfl, hb7, k7, hBs7, (by rw [wcells_append]; exact hown7), fun z hz => by
              rcases List.mem_append.1 hz with h | h
              · exact hzo.out z h
              · rw [List.mem_singleton.1 h]; omega⟩, by simp [intOf]; omega⟩
          · have hl4 := hL.out (by omega)
            obtain ⟨nl, hnl⟩ := Int.eq_ofNat_of_zero_le (show 0 ≤ l by omega)
            subst hnl
            obtain ⟨V2, hV2⟩ : ∃ V2 : Nat, V % nl = V2 := ⟨_, rfl⟩
            have hVl : V2 < nl := by rw [← hV2]; exact Nat.mod_lt _ (by omega)
            have z0 : IntKind.u64.wrap (nl : Int) = (nl : Int) := by rw [IntKind.wrap_u64]; omega
            have z1 : (V : Int).tmod (nl : Int) = (V2 : Int) := by rw [← hV2]; rfl
            have z2 : (V : Int) % (nl : Int) = (V2 : Int) := by rw [← hV2]; rfl
            have z3 : IntKind.u64.wrap (V2 : Int) = (V2 : Int) := by rw [IntKind.wrap_u64]; omega
            have z4 : ((nl : Int) == 0) = false := by simp; omega
            replace hV2 := Lib.hid hV2
            have hown6 := Lib.hid (hown.alloc (.cells #[.int .u64 ((V2 : Int))] 43 (0, 0)))
            have hb6 := Lib.hid (hb.alloc hb.size (.cells #[.int .u64 ((V2 : Int))] 43 (0, 0)))
            have k6 := Lib.hid (alloc_keeps (o := .cells #[.int .u64 ((V2 : Int))] 43 (0, 0)) k0)
            have hBs6 : B0 ≤ (wc.alloc (.cells #[.int .u64 ((V2 : Int))] 43 (0, 0))).heap.size := Nat.le_trans hBs (by simp)
            have t1 : j + 1 ≤ maxLen := by unfold maxLen; omega
            have t2 : (j + 1) * 8 ≤ 140737488355328 := by omega
            clear hown hb k0 hBs
            go_wp2_with (at_builtin; refine wpList_append_own _ rfl _ _ 47 rfl B0 43 i0 (.int .u64 0) 1 8 Try.underlying47 hinf.out hz0 hz1 hz2 rfl (by decide) _ _ _ rfl hown6.out ⟨_, 0, none⟩ 1 1 [.int .u64 ((V2 : Int))] rfl rfl (news_word (by simp)) (by simp [Value.oneCell']) t1 t2 hBs6 ?_; intro v1 w7 hown7 hg7 _; have hb7 := grownn_below hb6.out hBw.out hown6.out hg7; have k7 := (hg7.block w.heap.size (lt_of_get k6.out) (fun e => by have := (hown6.out.lt _ e.symm).1; have := hpB.out; omega)).trans k6.out; have hBs7 := Nat.le_trans hBs6 hg7.size; clear hg7)
            exact ⟨⟨j + 1, S, zs ++ [(V2 : Int)], by omega, by omega, by go_num, rfl, by rw [List.length_append, hzl.out]; rfl, hb7, k7, hBs7, (by rw [wcells_append]; exact hown7), fun z hz => by
              rcases List.mem_append.1 hz with h | h
              · exact hzo.out z h
              · rw [List.mem_singleton.1 h]; omega⟩, by simp [intOf]; omega⟩
          · have hw5 := hW.out rfl
            have hl5 := hL.out (by omega)
            obtain ⟨nW, hnW⟩ := Int.eq_ofNat_of_zero_le (show 0 ≤ W by omega)
            subst hnW
            obtain ⟨V2, hV2, z1, z2, z3⟩ := mod_two V
            obtain ⟨S2, hS2, z4, z5⟩ : ∃ S2 : Nat, S + V2 = S2 ∧ (S : Int) + (V2 : Int) = (S2 : Int) ∧ IntKind.i64.wrap ((S : Int) + (V2 : Int)) = (S2 : Int) := ⟨_, rfl, by omega, wrap_i (by omega) (by omega)⟩
            have z6 : IntKind.i64.wrap (V2 : Int) = (V2 : Int) := wrap_i rfl (by omega)
            have hS3 : S2 ≤ j + 1 := by omega
            replace hS2 := Lib.hid hS2
            by_cases hgt : nW < S2
            · have z7 : (nW : Int) < (S2 : Int) := by omega
              clear hgt
              have hown6 := Lib.hid (hown.alloc (.cells #[.int .u64 (0)] 43 (0, 0)))
              have hb6 := Lib.hid (hb.alloc hb.size (.cells #[.int .u64 (0)] 43 (0, 0)))
              have k6 := Lib.hid (alloc_keeps (o := .cells #[.int .u64 (0)] 43 (0, 0)) k0)
              have hBs6 : B0 ≤ (wc.alloc (.cells #[.int .u64 (0)] 43 (0, 0))).heap.size := Nat.le_trans hBs (by simp)
              have t1 : j + 1 ≤ maxLen := by unfold maxLen; omega
              have t2 : (j + 1) * 8 ≤ 140737488355328 := by omega
              clear hown hb k0 hBs
              go_wp2_with (at_builtin; refine wpList_append_own _ rfl _ _ 47 rfl B0 43 i0 (.int .u64 0) 1 8 Try.underlying47 hinf.out hz0 hz1 hz2 rfl (by decide) _ _ _ rfl hown6.out ⟨_, 0, none⟩ 1 1 [.int .u64 (0)] rfl rfl (news_word (by simp)) (by simp [Value.oneCell']) t1 t2 hBs6 ?_; intro v1 w7 hown7 hg7 _; have hb7 := grownn_below hb6.out hBw.out hown6.out hg7; have k7 := (hg7.block w.heap.size (lt_of_get k6.out) (fun e => by have := (hown6.out.lt _ e.symm).1; have := hpB.out; omega)).trans k6.out; have hBs7 := Nat.le_trans hBs6 hg7.size; clear hg7)
              exact ⟨⟨j + 1, S, zs ++ [0], by omega, by omega, by go_num, rfl, by rw [List.length_append, hzl.out]; rfl, hb7, k7, hBs7, (by rw [wcells_append]; exact hown7), fun z hz => by
                rcases List.mem_append.1 hz with h | h
                · exact hzo.out z h
                · rw [List.mem_singleton.1 h]; omega⟩, by simp [intOf]; omega⟩
            · have z7 : ¬ (nW : Int) < (S2 : Int) := by omega
              clear hgt
              have hown6 := Lib.hid (hown.alloc (.cells #[.int .u64 ((V2 : Int))] 43 (0, 0)))
              have hb6 := Lib.hid (hb.alloc hb.size (.cells #[.int .u64 ((V2 : Int))] 43 (0, 0)))
              have k6 := Lib.hid (alloc_keeps (o := .cells #[.int .u64 ((V2 : Int))] 43 (0, 0)) k0)
              have hBs6 : B0 ≤ (wc.alloc (.cells #[.int .u64 ((V2 : Int))] 43 (0, 0))).heap.size := Nat.le_trans hBs (by simp)
              have t1 : j + 1 ≤ maxLen := by unfold maxLen; omega
              have t2 : (j + 1) * 8 ≤ 140737488355328 := by omega
              clear hown hb k0 hBs
              go_wp2_with (at_builtin; refine wpList_append_own _ rfl _ _ 47 rfl B0 43 i0 (.int .u64 0) 1 8 Try.underlying47 hinf.out hz0 hz1 hz2 rfl (by decide) _ _ _ rfl hown6.out ⟨_, 0, none⟩ 1 1 [.int .u64 ((V2 : Int))] rfl rfl (news_word (by simp)) (by simp [Value.oneCell']) t1 t2 hBs6 ?_; intro v1 w7 hown7 hg7 _; have hb7 := grownn_below hb6.out hBw.out hown6.out hg7; have k7 := (hg7.block w.heap.size (lt_of_get k6.out) (fun e => by have := (hown6.out.lt _ e.symm).1; have := hpB.out; omega)).trans k6.out; have hBs7 := Nat.le_trans hBs6 hg7.size; clear hg7)
              exact ⟨⟨j + 1, S2, zs ++ [(V2 : Int)], by omega, by omega, by go_num, rfl, by rw [List.length_append, hzl.out]; rfl, hb7, k7, hBs7, (by rw [wcells_append]; exact hown7), fun z hz => by
                rcases List.mem_append.1 hz with h | h
                · exact hzo.out z h
                · rw [List.mem_singleton.1 h]; omega⟩, by simp [intOf]; omega⟩
      · obtain rfl : n4 = j := by omega
        have hl2 := hzl.out
        rw [← hl2] at hown
        obtain ⟨a9, c9, hv9, hW9⟩ := owns_words2 hown
        rw [hl2] at hv9
        subst hv9
        have j1 : ¬ (n4 : Int) < (n4 : Int) := by omega
        replace hW9 := Lib.hid hW9
        clear hown hl2
        go_wp2
        go_ret
        exact ⟨a9, zs, c9, by rw [hzl.out]; rfl, hb, hzo.out, by rw [hzl.out]; exact hn4, hW9.out⟩
end Go.Proofs.Ytgdokfchfgnbbaa
