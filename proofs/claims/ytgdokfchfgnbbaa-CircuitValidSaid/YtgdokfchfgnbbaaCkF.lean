/-
  What of a vector is summed, as the document says.
-/
import Derived.Test.YtgdokfchfgnbbaaCkE
import Derived.Test.YtgdokfchfgnbbaaCjP
namespace Go.Proofs.Ytgdokfchfgnbbaa
open Go.RowKit Flow F
set_option linter.unusedVariables false
set_option linter.unusedSimpArgs false

def RTrOut (L : List Int) (w : World) (e : Ending) (w' : World) : Prop := ∃ B d, e = .returned (.slice B L.length d) ∧ Below w.heap.size w w' ∧ ElemsAt w' B L
theorem trunc_take {x : Ci} (h : x.Good) (h23 : ¬ (x.k = 2 ∨ x.k = 3)) {xs : List Int} (hx : InF x.f xs) (hl : x.outN ≤ xs.length) : truncL x xs = xs.take x.outN := by
  have e1 : (truncL x xs).length = x.outN := truncL_length x xs
  refine List.ext_getElem (by rw [e1, List.length_take]; omega) fun i h1 h2 => ?_
  have hi : i < xs.length := by omega
  have hb := hx.at_ hi
  rw [List.getElem_take]
  have e : (truncL x xs)[i] = truncF x xs i := by simp [truncL]
  rw [e]
  unfold truncF
  rw [if_neg h23]
  rw [List.getD_eq_getElem?_getD, List.getElem?_eq_getElem hi] at hb ⊢
  exact add_zero_in hb.1 hb.2
theorem out_le_in {x : Ci} (h : x.Good) (h23 : ¬ (x.k = 2 ∨ x.k = 3)) : x.outN ≤ x.inN := by
  have := h.fits.k1
  have := h.fits.k5
  have := h.fits.l
  unfold Ci.outN Ci.inN
  by_cases h1 : x.k = 1
  · rw [if_pos (.inl h1), if_pos h1]; omega
  · rw [if_neg (by omega), if_neg h1, if_neg (by omega), if_neg (by omega)]
    split <;> omega
theorem in_out {x : Ci} (h : x.Good) (h23 : x.k = 2 ∨ x.k = 3) : x.inN = x.outN * x.b.toNat := by
  have := h.fits.k1
  unfold Ci.outN Ci.inN
  by_cases h2 : x.k = 2
  · rw [if_neg (by omega), if_pos h2, if_pos (.inr h2), Nat.one_mul]
  · rw [if_neg (by omega), if_neg h2, if_pos (by omega), if_neg (by omega), Nat.mul_comm]
theorem out_le {x : Ci} (h : x.Good) : x.outN ≤ 64 := by
  unfold Ci.outN
  have := h.fits.l
  have := h.fits.k1
  split <;> omega
theorem rtrunc_rest (x : Ci) (h : x.Good) (h23 : ¬ (x.k = 2 ∨ x.k = 3)) (xs : List Int) (A : Option Addr) (N cp : Nat) (hl : xs.length = N) (hN : N = x.inN) (hcp : N ≤ cp) (hx : InF x.f xs) (w : World) (hA : ElemsAt w A xs) :
    Calls Try.prog 40 #[rvl x, .slice A N cp] w (RTrOut (truncL x xs) w) := by
  have hOI := out_le_in h h23
  rw [← hN] at hOI
  have hO64 := out_le h
  rw [trunc_take h h23 hx (by omega)]
  have hO := rout_any x h
  have hk1 := h.fits.k1
  have hL : (xs.take x.outN).length = x.outN := by rw [List.length_take]; omega
  obtain ⟨k, f, b, l, W, c⟩ := x
  unfold rvl NumBy at *
  simp only at h23 hk1
  generalize (Ci.mk k f b l W c).outN = O at *
  have e2 : (k != 2) = true := by simp; omega
  have e3 : (k != 3) = true := by simp; omega
  have o1 : (O : Int) ≤ (cp : Int) := by omega
  have o2 : (O : Int) ≤ (N : Int) := by omega
  have o0 : (0 : Int) ≤ (O : Int) := by omega
  replace hO := Lib.hid hO
  replace hA := Lib.hid hA
  replace hL := Lib.hid hL
  replace hl := Lib.hid hl
  clear h h23 hN hx
  go_enter Try.func40, Try.ntmps40
  go_upto_region 1 with (fail)
  refine name_wp (fun w1 => Below w.heap.size w w1 ∧ w1.heap[w.heap.size]? = some (.cells #[.int .i64 k, .int .i64 f, .int .i64 b, .int .i64 l, .int .i64 W, .int .i64 c] 32 (0, 0))) ⟨(Below.refl _ _).alloc (Nat.le_refl _) _, alloc_at rfl⟩ ?_
  rintro w1 ⟨hb, k0⟩
  obtain ⟨c0, c1, c2, c3, c4, c5⟩ := blk6 k0
  go_wp2_with fail
  refine call_then (hO.out _) ?_
  intro w2 hv
  replace hb := below_next hb hb.size hv
  cases A with
  | none =>
    have h0 : xs.length = 0 := by
      rcases Nat.eq_zero_or_pos xs.length with h | h
      · exact h
      · obtain ⟨_, _, e, _⟩ := hA.out 0 h; cases e
    obtain rfl : N = 0 := by have := hl.out; omega
    obtain rfl : O = 0 := by omega
    go_wp2
    go_ret
    refine ⟨none, _, by rw [hL.out]; rfl, hb, fun k hk => by rw [hL.out] at hk; omega⟩
  | some a =>
    go_wp2
    go_ret
    exact ⟨_, _, by rw [hL.out]; rfl, hb, (hA.out.up hb).take O⟩
set_option maxRecDepth 20000 in
set_option maxHeartbeats 4000000 in
theorem rtrunc_bits (x : Ci) (h : x.Good) (h23 : x.k = 2 ∨ x.k = 3) (xs : List Int) (A : Option Addr) (N cp : Nat) (hl : xs.length = N) (hN : N = x.inN) (hcp : N ≤ cp) (hx : InF x.f xs) (w : World) (hA : ElemsAt w A xs) :
    Calls Try.prog 40 #[rvl x, .slice A N cp] w (RTrOut (truncL x xs) w) := by
  have hb2 := h.fits.b h23
  have hIle := h.fits.in_le
  have hO64 := out_le h
  have hIOe := in_out h h23
  have hO := rout_any x h
  rw [← hN] at hIle hIOe
  obtain ⟨nb, hnb⟩ := Int.eq_ofNat_of_zero_le (show 0 ≤ x.b by omega)
  have hnum := fun i (hi : i < x.outN) A c w hA => rnumber_any x.f h.f (piece xs x.b.toNat i) A x.b.toNat c (by
    unfold piece
    rw [List.length_take, List.length_drop, hl, hIOe]
    have h1 : (i + 1) * x.b.toNat ≤ x.outN * x.b.toNat := Nat.mul_le_mul_right _ hi
    rw [Nat.succ_mul] at h1
    omega) (by omega) (fun y hy => hx.ok y (List.mem_of_mem_drop (List.mem_of_mem_take hy))) w hA
  obtain ⟨T, hT⟩ : ∃ T, truncF x xs = T := ⟨_, rfl⟩
  have hTe : ∀ i, numF x.f (piece xs x.b.toNat i) = T i := fun i => by rw [← hT]; unfold truncF; rw [if_pos h23]
  have hTL : truncL x xs = rangeL T x.outN := by unfold truncL rangeL; rw [hT]
  rw [hTL]
  simp only [hTe] at hnum
  rw [hnb, Int.toNat_natCast] at hnum hIOe
  rw [hnb] at hb2
  obtain ⟨k, f, b, l, W, c⟩ := x
  unfold rvl NumBy at *
  simp only at hnb h23 hnum
  subst hnb
  generalize (Ci.mk k f (nb : Int) l W c).outN = O at *
  have hkk : ((k != 2) = false) ∨ ((k != 2) = true ∧ (k != 3) = false) := by
    rcases h23 with rfl | rfl
    · exact .inl rfl
    · exact .inr ⟨rfl, rfl⟩
  obtain ⟨i0, hinf, hz0, hz1, hz2⟩ := info_parts info_elemv
  replace hinf := Lib.hid hinf
  replace hnum := Lib.hid hnum
  replace hO := Lib.hid hO
  replace hA := Lib.hid hA
  replace hl := Lib.hid hl
  clear h h23 hN hx hT hTe hTL
  rcases hkk with e2 | ⟨e2, e3⟩
  · go_enter Try.func40, Try.ntmps40
    go_upto_region 1 with (fail)
    refine name_wp (fun w1 => Below w.heap.size w w1 ∧ w1.heap[w.heap.size]? = some (.cells #[.int .i64 k, .int .i64 f, .int .i64 (nb : Int), .int .i64 l, .int .i64 W, .int .i64 c] 32 (0, 0))) ⟨(Below.refl _ _).alloc (Nat.le_refl _) _, alloc_at rfl⟩ ?_
    rintro w1 ⟨hb, k0⟩
    obtain ⟨c0, c1, c2, c3, c4, c5⟩ := blk6 k0
    go_wp2
    have hBw := hb.size
    have hpB := lt_of_get k0
    obtain ⟨B0, hB0⟩ : ∃ B0, B0 = w1.heap.size := ⟨_, rfl⟩
    rw [← hB0] at hBw hpB
    have hBs : B0 ≤ w1.heap.size := Nat.le_of_eq hB0
    have hown : w1.ownsRow B0 56 2 (.slice none 0 0) 0 (ecells (rangeL T 0)) := World.ownsRow_nil _ _ _ _
    replace hBw := Lib.hid hBw
    replace hpB := Lib.hid hpB
    clear hB0 c0 c1 c2 c3 c4 c5
    go_loopw [6, 5] (fun i v wr => ∃ j : Nat, j ≤ O ∧ i = .int .i64 (j : Int) ∧ Below w.heap.size w wr ∧ wr.heap[w.heap.size]? = some (.cells #[.int .i64 k, .int .i64 f, .int .i64 (nb : Int), .int .i64 l, .int .i64 W, .int .i64 c] 32 (0, 0)) ∧ B0 ≤ wr.heap.size ∧ wr.ownsRow B0 56 2 v j (ecells (rangeL T j))) (fun i _ _ => O - (intOf i).toNat)
    case atStart => exact ⟨0, Nat.zero_le _, rfl, hb, k0, hBs, hown⟩
    case round =>
      clear hb k0 hBs hown
      obtain ⟨j, hj, rfl, hb, k0, hBs, hown⟩ := hrel
      obtain ⟨c0, c1, c2, c3, c4, c5⟩ := blk6 k0
      go_wp2_with fail
      refine call_then (hO.out _) ?_
      intro w2 hv
      replace hb := below_next hb hb.size hv
      replace k0 := keeps hv k0
      replace hown := ownsn_up hown hv
      replace hBs := Nat.le_trans hBs hv.size
      clear hv
      clear c0 c1 c2 c3 c4 c5
      by_cases hlt : j < O
      · have j1 : (j : Int) < (O : Int) := by omega
        have j0 : (0 : Int) ≤ (j : Int) := by omega
        have hle : (j + 1) * nb ≤ O * nb := Nat.mul_le_mul_right _ hlt
        have hON : O * nb = N := hIOe.symm
        rw [hON, Nat.succ_mul] at hle
        have hn := Lib.hid (hnum.out j hlt)
        obtain ⟨p, o, rfl, -, -⟩ := hA.out 0 (by rw [hl.out]; omega)
        have hpc : piece xs nb j = (xs.drop (j * nb)).take nb := rfl
        obtain ⟨P, hP⟩ : ∃ P, j * nb = P := ⟨_, rfl⟩
        obtain ⟨P2, hP2⟩ : ∃ P2, P + nb = P2 := ⟨_, rfl⟩
        have hPi : (j : Int) * (nb : Int) = (P : Int) := by rw [← hP, Int.natCast_mul]
        have hP2i : ((j : Int) + 1) * (nb : Int) = (P2 : Int) := by rw [Int.add_mul, hPi]; omega
        rw [hP, hP2] at hle
        rw [hP] at hpc
        have zP : IntKind.i64.wrap (P : Int) = (P : Int) := wrap_i rfl (by omega)
        have zP2 : IntKind.i64.wrap (P2 : Int) = (P2 : Int) := wrap_i rfl (by omega)
        have a0 : (0 : Int) ≤ (P : Int) := by omega
        have a1 : (P : Int) ≤ (P2 : Int) := by omega
        have a2 : (P2 : Int) ≤ (cp : Int) := by omega
        have a2' : (P : Int) ≤ (N : Int) := by omega
        have a2'' : (P2 : Int) ≤ (N : Int) := by omega
        have a3 : ¬ cp = P := by omega
        have a4 : ¬ P = cp := by omega
        have a5 : P2 - P = nb := by omega
        have hel := fun w hb => ((((hA.out.up hb).drop P).take nb) : ElemsAt w _ _)
        rw [← hpc] at hel
        have hn2 := Lib.hid (fun c w hb => hn.out (some ⟨p, o + P * 2, none⟩) c w (hel w hb))
        have hsn := Lib.hid (show ecells (rangeL T (j + 1)) = ecells (rangeL T j) ++ ecells [T j] by rw [← ecells_append]; simp [rangeL, List.range_succ])
        replace hpc := Lib.hid hpc
        replace hP := Lib.hid hP
        replace hP2 := Lib.hid hP2
        clear hON hn hel
        go_upto_region 7 with (fail)
        refine seg_start 16 (by kernel_rfl) (by decide) ?_
        intro v0 hv
        replace hb := below_next hb hb.size hv
        replace k0 := keeps hv k0
        replace hown := ownsn_up hown hv
        replace hBs := Nat.le_trans hBs hv.size
        clear hv
        refine seg_batch 1 [0, 1, 2, 3, 4, 5, 6, 7, 8, 9, 10, 11, 12, 13, 14] (by kernel_rfl) rfl (by kernel_rfl) (by kernel_rfl) (by kernel_rfl) ?_
        apply Exists.intro
        refine ⟨fun ι _ φ hφ => ?_, fun v1 hv => ?_⟩
        · have q := fun i => blk6 (keeps (hφ.old i) k0)
          have q0 := fun i => (q i).1
          have q1 := fun i => (q i).2.1
          have q2 := fun i => (q i).2.2.1
          have q3 := fun i => (q i).2.2.2.1
          have q4 := fun i => (q i).2.2.2.2.1
          have q5 := fun i => (q i).2.2.2.2.2
          clear q
          have hB := Lib.hid (fun i => below_next hb hb.size (hφ.old i))
          repeat (refine pick_step rfl ?_; go_big_quiet_step ((go_at_call 76; exact flow_call hφ (hn2.out _ _ (hB.out _)))))
          exact pick_end
        replace hb := below_next hb hb.size hv
        replace k0 := keeps hv k0
        replace hown := ownsn_up hown hv
        replace hBs := Nat.le_trans hBs hv.size
        clear hv
        refine seg_one 15 _ (by decide) rfl (by kernel_rfl) ?_
        intro v2 K' hv hK
        replace hb := below_next hb hb.size hv
        replace k0 := keeps hv k0
        replace hown := ownsn_up hown hv
        replace hBs := Nat.le_trans hBs hv.size
        clear hv
        replace hK := Lib.hid hK
        go_simp
        refine hK.out _ _ ((Below.refl _ _).alloc (Nat.le_refl _) _) ?_
        clear hK
        have hnews := Lib.hid (row_news (show Row (v2.alloc (.cells #[.int .u64 (lo (T j)), .int .u64 (hi (T j))] 56)) v2.heap.size [T j] from alloc_at rfl))
        have hv := (Below.refl v2.heap.size v2).alloc (Nat.le_refl _) (.cells #[.int .u64 (lo (T j)), .int .u64 (hi (T j))] 56)
        replace hb := below_next hb hb.size hv
        replace k0 := keeps hv k0
        replace hown := ownsn_up hown hv
        replace hBs := Nat.le_trans hBs hv.size
        clear hv
        generalize (v2.alloc (.cells #[.int .u64 (lo (T j)), .int .u64 (hi (T j))] 56)) = v3 at *
        generalize v2.heap.size = gz at *
        refine seg_tail (by kernel_rfl) ?_
        intro v4 hv
        have hnews4 := Lib.hid (fun j u h => (hv.cell (World.block_lt_of_cell? _ _ (hnews.out j u h))).trans (hnews.out j u h))
        replace hb := below_next hb hb.size hv
        replace k0 := keeps hv k0
        replace hown := ownsn_up hown hv
        replace hBs := Nat.le_trans hBs hv.size
        clear hv
        have t1 : j + 1 ≤ maxLen := by unfold maxLen; omega
        have t2 : (j + 1) * 16 ≤ 140737488355328 := by omega
        have t3 : (ecells [T j]).length = 1 * 2 := rfl
        replace hown := Lib.hid hown
        replace k0 := Lib.hid k0
        replace hb := Lib.hid hb
        clear hnews
        simp only [List.drop_succ_cons, List.drop_zero]
        go_wp2_with (at_builtin; refine wpList_append_own _ rfl _ _ 38 rfl B0 56 i0 (.agg #[.int .u64 0, .int .u64 0]) 2 16 Try.underlying38 hinf.out hz0 hz1 hz2 rfl (by decide) _ _ _ rfl hown.out ⟨gz, 0, none⟩ 1 1 (ecells [T j]) rfl t3 hnews4.out (ecells_one _) t1 t2 hBs ?_; intro v5 w7 hown7 hg7 _; have hb7 := grownn_below hb.out hBw.out hown.out hg7; have k7 := (hg7.block w.heap.size (lt_of_get k0.out) (fun e => by have := (hown.out.lt _ e.symm).1; have := hpB.out; omega)).trans k0.out; have hBs7 := Nat.le_trans hBs hg7.size; clear hg7)
        refine calm_normal ?_
        go_wp2
        refine ⟨⟨j + 1, by omega, by go_num, hb7, k7, hBs7, ?_⟩, by simp [intOf]; omega⟩
        rw [hsn.out]
        exact hown7
      · obtain rfl : O = j := by omega
        obtain ⟨a9, c9, rfl, hel9, hlc, hfr⟩ := owns_out hown
        have j1 : ¬ (O : Int) < (O : Int) := by omega
        replace hel9 := Lib.hid hel9
        replace hlc := Lib.hid hlc
        replace hfr := Lib.hid hfr
        clear hown
        go_wp2
        go_ret
        exact ⟨a9, c9, rfl, hb, hel9.out⟩
  · go_enter Try.func40, Try.ntmps40
    go_upto_region 1 with (fail)
    refine name_wp (fun w1 => Below w.heap.size w w1 ∧ w1.heap[w.heap.size]? = some (.cells #[.int .i64 k, .int .i64 f, .int .i64 (nb : Int), .int .i64 l, .int .i64 W, .int .i64 c] 32 (0, 0))) ⟨(Below.refl _ _).alloc (Nat.le_refl _) _, alloc_at rfl⟩ ?_
    rintro w1 ⟨hb, k0⟩
    obtain ⟨c0, c1, c2, c3, c4, c5⟩ := blk6 k0
    go_wp2
    have hBw := hb.size
    have hpB := lt_of_get k0
    obtain ⟨B0, hB0⟩ : ∃ B0, B0 = w1.heap.size := ⟨_, rfl⟩
    rw [← hB0] at hBw hpB
    have hBs : B0 ≤ w1.heap.size := Nat.le_of_eq hB0
    have hown : w1.ownsRow B0 56 2 (.slice none 0 0) 0 (ecells (rangeL T 0)) := World.ownsRow_nil _ _ _ _
    replace hBw := Lib.hid hBw
    replace hpB := Lib.hid hpB
    clear hB0 c0 c1 c2 c3 c4 c5
    go_loopw [6, 5] (fun i v wr => ∃ j : Nat, j ≤ O ∧ i = .int .i64 (j : Int) ∧ Below w.heap.size w wr ∧ wr.heap[w.heap.size]? = some (.cells #[.int .i64 k, .int .i64 f, .int .i64 (nb : Int), .int .i64 l, .int .i64 W, .int .i64 c] 32 (0, 0)) ∧ B0 ≤ wr.heap.size ∧ wr.ownsRow B0 56 2 v j (ecells (rangeL T j))) (fun i _ _ => O - (intOf i).toNat)
    case atStart => exact ⟨0, Nat.zero_le _, rfl, hb, k0, hBs, hown⟩
    case round =>
      clear hb k0 hBs hown
      obtain ⟨j, hj, rfl, hb, k0, hBs, hown⟩ := hrel
      obtain ⟨c0, c1, c2, c3, c4, c5⟩ := blk6 k0
      go_wp2_with fail
      refine call_then (hO.out _) ?_
      intro w2 hv
      replace hb := below_next hb hb.size hv
      replace k0 := keeps hv k0
      replace hown := ownsn_up hown hv
      replace hBs := Nat.le_trans hBs hv.size
      clear hv
      clear c0 c1 c2 c3 c4 c5
      by_cases hlt : j < O
      · have j1 : (j : Int) < (O : Int) := by omega
        have j0 : (0 : Int) ≤ (j : Int) := by omega
        have hle : (j + 1) * nb ≤ O * nb := Nat.mul_le_mul_right _ hlt
        have hON : O * nb = N := hIOe.symm
        rw [hON, Nat.succ_mul] at hle
        have hn := Lib.hid (hnum.out j hlt)
        obtain ⟨p, o, rfl, -, -⟩ := hA.out 0 (by rw [hl.out]; omega)
        have hpc : piece xs nb j = (xs.drop (j * nb)).take nb := rfl
        obtain ⟨P, hP⟩ : ∃ P, j * nb = P := ⟨_, rfl⟩
        obtain ⟨P2, hP2⟩ : ∃ P2, P + nb = P2 := ⟨_, rfl⟩
        have hPi : (j : Int) * (nb : Int) = (P : Int) := by rw [← hP, Int.natCast_mul]
        have hP2i : ((j : Int) + 1) * (nb : Int) = (P2 : Int) := by rw [Int.add_mul, hPi]; omega
        rw [hP, hP2] at hle
        rw [hP] at hpc
        have zP : IntKind.i64.wrap (P : Int) = (P : Int) := wrap_i rfl (by omega)
        have zP2 : IntKind.i64.wrap (P2 : Int) = (P2 : Int) := wrap_i rfl (by omega)
        have a0 : (0 : Int) ≤ (P : Int) := by omega
        have a1 : (P : Int) ≤ (P2 : Int) := by omega
        have a2 : (P2 : Int) ≤ (cp : Int) := by omega
        have a2' : (P : Int) ≤ (N : Int) := by omega
        have a2'' : (P2 : Int) ≤ (N : Int) := by omega
        have a3 : ¬ cp = P := by omega
        have a4 : ¬ P = cp := by omega
        have a5 : P2 - P = nb := by omega
        have hel := fun w hb => ((((hA.out.up hb).drop P).take nb) : ElemsAt w _ _)
        rw [← hpc] at hel
        have hn2 := Lib.hid (fun c w hb => hn.out (some ⟨p, o + P * 2, none⟩) c w (hel w hb))
        have hsn := Lib.hid (show ecells (rangeL T (j + 1)) = ecells (rangeL T j) ++ ecells [T j] by rw [← ecells_append]; simp [rangeL, List.range_succ])
        replace hpc := Lib.hid hpc
        replace hP := Lib.hid hP
        replace hP2 := Lib.hid hP2
        clear hON hn hel
        go_upto_region 7 with (fail)
        refine seg_start 16 (by kernel_rfl) (by decide) ?_
        intro v0 hv
        replace hb := below_next hb hb.size hv
        replace k0 := keeps hv k0
        replace hown := ownsn_up hown hv
        replace hBs := Nat.le_trans hBs hv.size
        clear hv
        refine seg_batch 1 [0, 1, 2, 3, 4, 5, 6, 7, 8, 9, 10, 11, 12, 13, 14] (by kernel_rfl) rfl (by kernel_rfl) (by kernel_rfl) (by kernel_rfl) ?_
        apply Exists.intro
        refine ⟨fun ι _ φ hφ => ?_, fun v1 hv => ?_⟩
        · have q := fun i => blk6 (keeps (hφ.old i) k0)
          have q0 := fun i => (q i).1
          have q1 := fun i => (q i).2.1
          have q2 := fun i => (q i).2.2.1
          have q3 := fun i => (q i).2.2.2.1
          have q4 := fun i => (q i).2.2.2.2.1
          have q5 := fun i => (q i).2.2.2.2.2
          clear q
          have hB := Lib.hid (fun i => below_next hb hb.size (hφ.old i))
          repeat (refine pick_step rfl ?_; go_big_quiet_step ((go_at_call 76; exact flow_call hφ (hn2.out _ _ (hB.out _)))))
          exact pick_end
        replace hb := below_next hb hb.size hv
        replace k0 := keeps hv k0
        replace hown := ownsn_up hown hv
        replace hBs := Nat.le_trans hBs hv.size
        clear hv
        refine seg_one 15 _ (by decide) rfl (by kernel_rfl) ?_
        intro v2 K' hv hK
        replace hb := below_next hb hb.size hv
        replace k0 := keeps hv k0
        replace hown := ownsn_up hown hv
        replace hBs := Nat.le_trans hBs hv.size
        clear hv
        replace hK := Lib.hid hK
        go_simp
        refine hK.out _ _ ((Below.refl _ _).alloc (Nat.le_refl _) _) ?_
        clear hK
        have hnews := Lib.hid (row_news (show Row (v2.alloc (.cells #[.int .u64 (lo (T j)), .int .u64 (hi (T j))] 56)) v2.heap.size [T j] from alloc_at rfl))
        have hv := (Below.refl v2.heap.size v2).alloc (Nat.le_refl _) (.cells #[.int .u64 (lo (T j)), .int .u64 (hi (T j))] 56)
        replace hb := below_next hb hb.size hv
        replace k0 := keeps hv k0
        replace hown := ownsn_up hown hv
        replace hBs := Nat.le_trans hBs hv.size
        clear hv
        generalize (v2.alloc (.cells #[.int .u64 (lo (T j)), .int .u64 (hi (T j))] 56)) = v3 at *
        generalize v2.heap.size = gz at *
        refine seg_tail (by kernel_rfl) ?_
        intro v4 hv
        have hnews4 := Lib.hid (fun j u h => (hv.cell (World.block_lt_of_cell? _ _ (hnews.out j u h))).trans (hnews.out j u h))
        replace hb := below_next hb hb.size hv
        replace k0 := keeps hv k0
        replace hown := ownsn_up hown hv
        replace hBs := Nat.le_trans hBs hv.size
        clear hv
        have t1 : j + 1 ≤ maxLen := by unfold maxLen; omega
        have t2 : (j + 1) * 16 ≤ 140737488355328 := by omega
        have t3 : (ecells [T j]).length = 1 * 2 := rfl
        replace hown := Lib.hid hown
        replace k0 := Lib.hid k0
        replace hb := Lib.hid hb
        clear hnews
        simp only [List.drop_succ_cons, List.drop_zero]
        go_wp2_with (at_builtin; refine wpList_append_own _ rfl _ _ 38 rfl B0 56 i0 (.agg #[.int .u64 0, .int .u64 0]) 2 16 Try.underlying38 hinf.out hz0 hz1 hz2 rfl (by decide) _ _ _ rfl hown.out ⟨gz, 0, none⟩ 1 1 (ecells [T j]) rfl t3 hnews4.out (ecells_one _) t1 t2 hBs ?_; intro v5 w7 hown7 hg7 _; have hb7 := grownn_below hb.out hBw.out hown.out hg7; have k7 := (hg7.block w.heap.size (lt_of_get k0.out) (fun e => by have := (hown.out.lt _ e.symm).1; have := hpB.out; omega)).trans k0.out; have hBs7 := Nat.le_trans hBs hg7.size; clear hg7)
        refine calm_normal ?_
        go_wp2
        refine ⟨⟨j + 1, by omega, by go_num, hb7, k7, hBs7, ?_⟩, by simp [intOf]; omega⟩
        rw [hsn.out]
        exact hown7
      · obtain rfl : O = j := by omega
        obtain ⟨a9, c9, rfl, hel9, hlc, hfr⟩ := owns_out hown
        have j1 : ¬ (O : Int) < (O : Int) := by omega
        replace hel9 := Lib.hid hel9
        replace hlc := Lib.hid hlc
        replace hfr := Lib.hid hfr
        clear hown
        go_wp2
        go_ret
        exact ⟨a9, c9, rfl, hb, hel9.out⟩
/-- What of a vector is summed, as the document says. -/
theorem rtrunc_ok (x : Ci) (h : x.Good) (xs : List Int) (A : Option Addr) (N cp : Nat) (hl : xs.length = N) (hN : N = x.inN) (hcp : N ≤ cp) (hx : InF x.f xs) (w : World) (hA : ElemsAt w A xs) :
    Calls Try.prog 40 #[rvl x, .slice A N cp] w (RTrOut (truncL x xs) w) := by
  by_cases h23 : x.k = 2 ∨ x.k = 3
  · exact rtrunc_bits x h h23 xs A N cp hl hN hcp hx w hA
  · exact rtrunc_rest x h h23 xs A N cp hl hN hcp hx w hA
end Go.Proofs.Ytgdokfchfgnbbaa
