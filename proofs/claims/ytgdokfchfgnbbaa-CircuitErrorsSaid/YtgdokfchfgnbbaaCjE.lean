/-
  What is measured as a vector.
-/
import Derived.Test.YtgdokfchfgnbbaaCjD
import Derived.Test.YtgdokfchfgnbbaaBE
namespace Go.Proofs.Ytgdokfchfgnbbaa
open Go.RowKit Flow F
set_option linter.unusedVariables false
set_option linter.unusedSimpArgs false

/-- What is measured as a vector. -/
def encL (x : Ci) (zs : List Int) : List Int :=
  if x.k = 2 ∨ x.k = 3 then zs.flatMap (fun z => bitsL z.toNat x.b.toNat)
  else if x.k = 4 then (List.replicate x.l.toNat 0).set (zs.getD 0 0).toNat 1
  else if x.k = 5 then zs ++ bitsL ((wsum zs).toNat + offN x.w.toNat) (Lib.bitLen x.w.toNat)
  else zs
/-- Its error. -/
def encE (x : Ci) (N : Nat) (zs : List Int) : Int := if x.code = 0 then (if N = x.measuredN then (if fitsB x zs = true then 0 else 6) else 9) else x.code
def EncOut (x : Ci) (L : List Int) (w : World) (e : Ending) (w' : World) : Prop :=
  ∃ A c, e = .returned (.tuple #[.slice A L.length c, .int .i64 0]) ∧ Below w.heap.size w w' ∧ ElemsAt w' A L ∧ L.length ≤ c ∧ ∀ a, A = some a → w.heap.size ≤ a.block
theorem ecells_one : ∀ xs, ∀ u ∈ ecells xs, u.oneCell' = true
  | [] => fun u hu => by cases hu
  | x :: xs => fun u hu => by
    simp only [ecells, List.mem_cons] at hu
    rcases hu with rfl | rfl | hu
    · rfl
    · rfl
    · exact ecells_one xs u hu
theorem owns_sl {w : World} {base n size : Nat} {e : TypeId} {v : Value} {xs : List Value} (h : w.ownsRow base e size v n xs) : ∃ a c, v = .slice a n c := by
  rcases h.2 with ⟨rfl, hn⟩ | ⟨g, cap, cur, rfl, _⟩
  · exact ⟨none, 0, by rw [hn]⟩
  · exact ⟨_, _, rfl⟩
theorem owns_out {w : World} {base : Nat} {v : Value} {n : Nat} {L : List Int} (h : w.ownsRow base 56 2 v n (ecells L)) : ∃ a c, v = .slice a L.length c ∧ ElemsAt w a L ∧ L.length ≤ c ∧ ∀ x, a = some x → base ≤ x.block := by
  obtain ⟨h1, h2⟩ := owns_elemsB h
  subst h1
  rcases h2 with ⟨h0, rfl⟩ | ⟨g, c, rfl, hc, hg, hel, _⟩
  · refine ⟨none, 0, by rw [h0], fun k hk => by omega, by omega, fun x e => by cases e⟩
  · exact ⟨_, _, rfl, hel, hc, fun x e => by cases e; exact hg⟩
theorem make_cap (c : Nat) (hc : c ≤ 65536) (w : World) : ∃ cur, (Instr.makeSlice 38 (.int .i64 0) (.int .i64 (c : Int))).run Try.prog w = .ok (.slice (some ⟨w.heap.size, 0, none⟩) 0 c) (w.alloc (.cells cur 56)) ∧ cur.size = c * 2 := by
  obtain ⟨i0, h0, h1, h2, h3⟩ := info_parts info_elem
  have hb : (i0.bytes : Int) * (c : Int) ≤ 281474976710656 := by rw [h3]; omega
  have hr := run_make (P := Try.prog) w 38 56 i0 _ Try.underlying38 h0 h1 .i64 .i64 0 c (by omega) (by omega) hb (by omega)
  simp only [Int.toNat_natCast] at hr
  rw [h2] at hr
  exact ⟨_, hr, size_madeCells _ _⟩
theorem row_news {w : World} {g : Nat} {xs : List Int} (h : Row w g xs) : ∀ j u, (ecells xs)[j]? = some u → w.cell? (Addr.add ⟨g, 0, none⟩ j) = some u := fun j u hj => by
  have h' : w.heap[g]? = some (.cells (ecells xs).toArray 56 (0, 0)) := h
  rw [add_two rfl, Nat.zero_add]
  simp only [World.cell?, h']
  simpa using hj
theorem flat_snoc {b : Nat} {l : List Int} {k : Nat} (h : k < l.length) : ecells ((l.take (k + 1)).flatMap (fun z => bitsL z.toNat b)) = ecells ((l.take k).flatMap (fun z => bitsL z.toNat b)) ++ ecells (bitsL (l.getD k 0).toNat b) := by
  rw [take_snocD h, List.flatMap_append, ecells_append]
  simp
theorem flat_len (b : Nat) : ∀ l : List Int, (l.flatMap (fun z => bitsL z.toNat b)).length = l.length * b
  | [] => by simp
  | z :: l => by rw [List.flatMap_cons, List.length_append, flat_len b l, bitsL_length, List.length_cons, Nat.succ_mul]; omega
theorem enc_code (x : Ci) (A : Option Addr) (N cp : Nat) (h : x.code ≠ 0) (w : World) : Calls Try.prog 33 #[cvl x, .slice A N cp] w fun e w' => e = .returned (.tuple #[.slice none 0 0, .int .i64 x.code]) ∧ Below w.heap.size w w' := by
  obtain ⟨k, f, b, l, W, c⟩ := x
  have hC := fun w => ccheck_any k f b l W c w
  unfold cvl
  generalize (Ci.mk k f b l W c).code = z at *
  have h1 : (z != 0) = true := by simpa using h
  replace hC := Lib.hid hC
  clear h
  go_enter Try.func33, Try.ntmps33
  go_upto_region 1 with (fail)
  refine name_wp (fun w1 => Below w.heap.size w w1 ∧ w1.heap[w.heap.size]? = some (.cells #[.int .u8 k, .int .u8 f, .int .i64 b, .int .i64 l, .int .i64 W, .int .i64 c] 25 (0, 0))) ⟨(Below.refl _ _).alloc (Nat.le_refl _) _, alloc_at rfl⟩ ?_
  rintro w1 ⟨hb, k0⟩
  obtain ⟨c0, c1, c2, c3, c4, c5⟩ := blk6 k0
  go_wp2_with fail
  refine call_then (hC.out _) ?_
  intro w2 hb2
  replace hb := below_next hb hb.size hb2
  replace k0 := keeps hb2 k0
  clear hb2 c0 c1 c2 c3 c4 c5
  obtain ⟨c0, c1, c2, c3, c4, c5⟩ := blk6 k0
  go_wp2
  go_ret2
  exact ⟨rfl, hb⟩
theorem enc_size (x : Ci) (A : Option Addr) (N cp : Nat) (h : x.Good) (hN : N ≠ x.measuredN) (w : World) : Calls Try.prog 33 #[cvl x, .slice A N cp] w fun e w' => e = .returned (.tuple #[.slice none 0 0, .int .i64 9]) ∧ Below w.heap.size w w' := by
  have hM := measured_any x h
  have hz := h.code
  obtain ⟨k, f, b, l, W, c⟩ := x
  have hC := fun w => ccheck_any k f b l W c w
  unfold cvl NumBy at *
  generalize (Ci.mk k f b l W c).measuredN = M at *
  rw [hz] at hC
  have n1 : ((N : Int) != (M : Int)) = true := by simp; omega
  have n2 : (N != M) = true := by simpa using hN
  have n3 : ((N : Int) == (M : Int)) = false := by simp; omega
  have n4 : (N == M) = false := by simpa using hN
  replace hC := Lib.hid hC
  replace hM := Lib.hid hM
  clear h hN hz
  go_enter Try.func33, Try.ntmps33
  go_upto_region 1 with (fail)
  refine name_wp (fun w1 => Below w.heap.size w w1 ∧ w1.heap[w.heap.size]? = some (.cells #[.int .u8 k, .int .u8 f, .int .i64 b, .int .i64 l, .int .i64 W, .int .i64 c] 25 (0, 0))) ⟨(Below.refl _ _).alloc (Nat.le_refl _) _, alloc_at rfl⟩ ?_
  rintro w1 ⟨hb, k0⟩
  obtain ⟨c0, c1, c2, c3, c4, c5⟩ := blk6 k0
  go_wp2_with fail
  refine call_then (hC.out _) ?_
  intro w2 hb2
  replace hb := below_next hb hb.size hb2
  replace k0 := keeps hb2 k0
  clear hb2 c0 c1 c2 c3 c4 c5
  obtain ⟨c0, c1, c2, c3, c4, c5⟩ := blk6 k0
  go_wp2_with fail
  refine call_then (hM.out _) ?_
  intro w2 hb2
  replace hb := below_next hb hb.size hb2
  replace k0 := keeps hb2 k0
  clear hb2 c0 c1 c2 c3 c4 c5
  obtain ⟨c0, c1, c2, c3, c4, c5⟩ := blk6 k0
  go_wp2
  go_ret2
  exact ⟨rfl, hb⟩
theorem enc_fits (x : Ci) (zs : List Int) (A : Option Addr) (N cp : Nat) (h : x.Good) (hN : N = x.measuredN) (hl : zs.length = N) (hm : N ≤ maxLen) (hz : WordsOK zs) (h1 : 1 ≤ N) (hf : fitsB x zs = false) (w : World) (hA : WordsAt w A zs) : Calls Try.prog 33 #[cvl x, .slice A N cp] w fun e w' => e = .returned (.tuple #[.slice none 0 0, .int .i64 6]) ∧ Below w.heap.size w w' := by
  have hM := measured_any x h
  have hF := fun w hA => fits_any x h zs A N cp hl h1 hm hz w hA
  rw [hf] at hF
  have hz := h.code
  obtain ⟨k, f, b, l, W, c⟩ := x
  have hC := fun w => ccheck_any k f b l W c w
  unfold cvl NumBy at *
  rw [← hN] at hM
  rw [hz] at hC
  replace hC := Lib.hid hC
  replace hM := Lib.hid hM
  replace hF := Lib.hid hF
  replace hA := Lib.hid hA
  clear h hN hz hf hl h1 hm
  go_enter Try.func33, Try.ntmps33
  go_upto_region 1 with (fail)
  refine name_wp (fun w1 => Below w.heap.size w w1 ∧ w1.heap[w.heap.size]? = some (.cells #[.int .u8 k, .int .u8 f, .int .i64 b, .int .i64 l, .int .i64 W, .int .i64 c] 25 (0, 0))) ⟨(Below.refl _ _).alloc (Nat.le_refl _) _, alloc_at rfl⟩ ?_
  rintro w1 ⟨hb, k0⟩
  obtain ⟨c0, c1, c2, c3, c4, c5⟩ := blk6 k0
  go_wp2_with fail
  refine call_then (hC.out _) ?_
  intro w2 hb2
  replace hb := below_next hb hb.size hb2
  replace k0 := keeps hb2 k0
  clear hb2 c0 c1 c2 c3 c4 c5
  obtain ⟨c0, c1, c2, c3, c4, c5⟩ := blk6 k0
  go_wp2_with fail
  refine call_then (hM.out _) ?_
  intro w2 hb2
  replace hb := below_next hb hb.size hb2
  replace k0 := keeps hb2 k0
  clear hb2 c0 c1 c2 c3 c4 c5
  obtain ⟨c0, c1, c2, c3, c4, c5⟩ := blk6 k0
  go_wp2_with fail
  refine call_then (hF.out _ (hA.out.up hb)) ?_
  intro w2 hb2
  replace hb := below_next hb hb.size hb2
  replace k0 := keeps hb2 k0
  clear hb2 c0 c1 c2 c3 c4 c5
  obtain ⟨c0, c1, c2, c3, c4, c5⟩ := blk6 k0
  go_wp2
  go_ret2
  exact ⟨rfl, hb⟩
set_option maxHeartbeats 2000000 in
theorem enc_bits (x : Ci) (zs : List Int) (A : Option Addr) (N cp : Nat) (h : x.Good) (hN : N = x.measuredN) (hl : zs.length = N) (hm : N ≤ maxLen) (hz : WordsOK zs) (h1 : 1 ≤ N) (hf : fitsB x zs = true) (h23 : x.k = 2 ∨ x.k = 3) (w : World) (hA : WordsAt w A zs) : Calls Try.prog 33 #[cvl x, .slice A N cp] w (EncOut x (encL x zs) w) := by
  have e1 : encL x zs = zs.flatMap (fun z => bitsL z.toNat x.b.toNat) := by unfold encL; rw [if_pos h23]
  rw [e1]
  have hb2 := h.fits.b h23
  have hbits := fun (n : Nat) hn w => bitsOf_any x h n x.b.toNat hn (by omega) w
  have hN64 : N ≤ 64 := by
    rw [hN]; unfold Ci.measuredN Ci.outN
    have := h.fits.l
    split
    · omega
    · split <;> omega
  have hM := measured_any x h
  have hF := fun w hA => fits_any x h zs A N cp hl h1 hm hz w hA
  rw [hf] at hF
  have hz' := h.code
  have hle := h.fits.in_le
  have fb := fb_of h.f
  obtain ⟨k, f, b, l, W, c⟩ := x
  have hC := fun w => ccheck_any k f b l W c w
  have hI := fun w => cin_any k f b l W c h.fits w
  unfold cvl NumBy at *
  rw [← hN] at hM
  rw [hz'] at hC
  simp only at hb2 h23 hbits
  obtain ⟨nb, rfl⟩ := Int.eq_ofNat_of_zero_le (show 0 ≤ b by omega)
  simp only [Int.toNat_natCast] at hbits ⊢
  generalize (Ci.mk k f nb l W c).inN = I at *
  replace hC := Lib.hid hC
  replace hM := Lib.hid hM
  replace hF := Lib.hid hF
  replace hI := Lib.hid hI
  replace hA := Lib.hid hA
  replace hbits := Lib.hid hbits
  replace hz := Lib.hid hz
  replace hl := Lib.hid hl
  obtain ⟨i0, hinf, hz0, hz1, hz2⟩ := info_parts info_elemv
  replace hinf := Lib.hid hinf
  clear h hN hz' hf h1 e1
  have hN2 := hN64
  rcases h23 with rfl | rfl
  · go_enter Try.func33, Try.ntmps33
    go_upto_region 1 with (fail)
    refine name_wp (fun w1 => Below w.heap.size w w1 ∧ w1.heap[w.heap.size]? = some (.cells #[.int .u8 2, .int .u8 f, .int .i64 (nb : Int), .int .i64 l, .int .i64 W, .int .i64 c] 25 (0, 0))) ⟨(Below.refl _ _).alloc (Nat.le_refl _) _, alloc_at rfl⟩ ?_
    rintro w1 ⟨hb, k0⟩
    obtain ⟨c0, c1, c2, c3, c4, c5⟩ := blk6 k0
    go_wp2_with fail
    refine call_then (hC.out _) ?_
    intro w2 hb2
    replace hb := below_next hb hb.size hb2
    replace k0 := keeps hb2 k0
    clear hb2 c0 c1 c2 c3 c4 c5
    obtain ⟨c0, c1, c2, c3, c4, c5⟩ := blk6 k0
    go_wp2_with fail
    refine call_then (hM.out _) ?_
    intro w2 hb2
    replace hb := below_next hb hb.size hb2
    replace k0 := keeps hb2 k0
    clear hb2 c0 c1 c2 c3 c4 c5
    obtain ⟨c0, c1, c2, c3, c4, c5⟩ := blk6 k0
    go_wp2_with fail
    refine call_then (hF.out _ (hA.out.up hb)) ?_
    intro w2 hb2
    replace hb := below_next hb hb.size hb2
    replace k0 := keeps hb2 k0
    clear hb2 c0 c1 c2 c3 c4 c5
    obtain ⟨c0, c1, c2, c3, c4, c5⟩ := blk6 k0
    go_wp2_with fail
    refine call_then (hI.out _) ?_
    intro w2 hb2
    replace hb := below_next hb hb.size hb2
    replace k0 := keeps hb2 k0
    clear hb2 c0 c1 c2 c3 c4 c5
    obtain ⟨c0, c1, c2, c3, c4, c5⟩ := blk6 k0
    clear hC hM hF hI
    obtain ⟨cur, hmk, hcs⟩ := make_cap I (by omega) w2
    go_upto_region 9 with (fail)
    have hBw := hb.size
    have hpB := lt_of_get k0
    have hm3 := World.ownsRow_made (base := w2.heap.size) w2 cur I (Nat.le_refl _) (by unfold maxLen; omega) hcs (e := 56) (size := 2)
    refine name_wp (fun w3 => Below w.heap.size w w3 ∧ w3.heap[w.heap.size]? = some (.cells #[.int .u8 2, .int .u8 f, .int .i64 (nb : Int), .int .i64 l, .int .i64 W, .int .i64 c] 25 (0, 0)) ∧ w2.heap.size ≤ w3.heap.size ∧ w3.ownsRow w2.heap.size 56 2 (.slice (some ⟨w2.heap.size, 0, none⟩) 0 I) 0 (ecells [])) ⟨hb.alloc hb.size _, alloc_keeps k0, by simp, hm3⟩ ?_
    clear hb k0 hm3 hmk c0 c1 c2 c3 c4 c5
    generalize w2.heap.size = B0 at *
    rintro w3 ⟨hb, k0, hBs, hown⟩
    clear w2
    replace hBw := Lib.hid hBw
    replace hpB := Lib.hid hpB
    obtain ⟨c0, c1, c2, c3, c4, c5⟩ := blk6 k0
    go_wp2
    clear c0 c1 c2 c3 c4 c5
    go_loopw [50, 7] (fun i v wr => ∃ j : Nat, j ≤ N ∧ i = .int .i64 (j : Int) ∧ Below w.heap.size w wr ∧ wr.heap[w.heap.size]? = some (.cells #[.int .u8 2, .int .u8 f, .int .i64 (nb : Int), .int .i64 l, .int .i64 W, .int .i64 c] 25 (0, 0)) ∧ B0 ≤ wr.heap.size ∧ wr.ownsRow B0 56 2 v (j * nb) (ecells ((zs.take j).flatMap (fun z => bitsL z.toNat nb)))) (fun i _ _ => N - (intOf i).toNat)
    case atStart => exact ⟨0, Nat.zero_le _, rfl, hb, k0, hBs, by rw [Nat.zero_mul]; exact hown⟩
    case round =>
      clear hb k0 hown hBs
      obtain ⟨j, hj, rfl, hb, k0, hBs, hown⟩ := hrel
      obtain ⟨c0, c1, c2, c3, c4, c5⟩ := blk6 k0
      by_cases hlt : j < N
      · have j1 : (j : Int) < (N : Int) := by omega
        have j0 : (0 : Int) ≤ (j : Int) := by omega
        obtain ⟨p, o, rfl, hc⟩ := hA.out j (by rw [hl.out]; exact hlt)
        have hc2 := (hb.cell (World.block_lt_of_cell? _ _ hc)).trans hc
        have hx := hz.out.at_ (k := j) (by rw [hl.out]; exact hlt)
        have hsn := Lib.hid (flat_snoc (b := nb) (l := zs) (k := j) (by rw [hl.out]; exact hlt))
        have hjb : j * nb ≤ 64 * 32 := Nat.mul_le_mul (by omega) (by omega)
        have hjn : (j + 1) * nb = j * nb + nb := Nat.succ_mul _ _
        generalize zs.getD j 0 = z at *
        obtain ⟨Z, rfl⟩ := Int.eq_ofNat_of_zero_le hx.1
        rw [Int.toNat_natCast] at hsn
        have hbz := Lib.hid (hbits.out Z (by omega))
        obtain ⟨P, hP⟩ : ∃ P, j * nb = P := ⟨_, rfl⟩
        rw [hP] at hown hjb hjn
        replace hjn := Lib.hid hjn
        replace hP := Lib.hid hP
        clear hc
        go_wp2_with fail
        refine (hbz.out _).mono ?_
        rintro e w4 ⟨g, rfl, hb4, hg4, hrow⟩
        have hown4 := ownsn_up hown hb4
        have hb5 := below_next hb hb.size hb4
        have k5 := keeps hb4 k0
        have hBs5 := Nat.le_trans hBs hb4.size
        have hnews := row_news hrow
        have hlen : (ecells (bitsL Z nb)).length = nb * 2 := by rw [ecells_length, bitsL_length]
        have t1 : P + nb ≤ maxLen := by unfold maxLen; omega
        have t2 : (P + nb) * 16 ≤ 140737488355328 := by omega
        replace hown4 := Lib.hid hown4
        replace hnews := Lib.hid hnews
        replace hlen := Lib.hid hlen
        replace hb5 := Lib.hid hb5
        replace k5 := Lib.hid k5
        clear hown hb4 hb k0 hBs hbz c0 c1 c2 c3 c4 c5 hrow hg4
        go_wp2_with (at_builtin; refine wpList_append_own _ rfl _ _ 38 rfl B0 56 i0 (.agg #[.int .u64 0, .int .u64 0]) 2 16 Try.underlying38 hinf.out hz0 hz1 hz2 rfl (by decide) _ _ _ rfl hown4.out ⟨g, 0, none⟩ nb nb (ecells (bitsL Z nb)) rfl hlen.out hnews.out (ecells_one _) t1 t2 hBs5 ?_; intro v1 w6 hown6 hg6 _; have hb6 := grownn_below hb5.out hBw.out hown4.out hg6; have k6 := (hg6.block w.heap.size (lt_of_get k5.out) (fun e => by have := (hown4.out.lt _ e.symm).1; have := hpB.out; omega)).trans k5.out; have hBs6 := Nat.le_trans hBs5 hg6.size; clear hg6)
        refine ⟨⟨j + 1, by omega, by go_num, hb6, k6, hBs6, ?_⟩, by simp [intOf]; omega⟩
        rw [hjn.out, hsn.out]
        exact hown6
      · obtain rfl : N = j := by omega
        rw [List.take_of_length_le (by rw [hl.out]; exact Nat.le_refl _)] at hown
        obtain ⟨a9, c9, rfl, hel, hlc, hfr⟩ := owns_out hown
        obtain ⟨L, hL⟩ : ∃ L, zs.flatMap (fun z => bitsL z.toNat nb) = L := ⟨_, rfl⟩
        rw [hL] at hel hlc ⊢
        replace hL := Lib.hid hL
        replace hel := Lib.hid hel
        replace hlc := Lib.hid hlc
        replace hfr := Lib.hid hfr
        clear hown
        have j1 : ¬ (N : Int) < (N : Int) := by omega
        go_wp2
        go_ret2
        rw [hL.out]
        exact ⟨_, _, rfl, hb, hel.out, hlc.out, fun a e => Nat.le_trans hBw.out (hfr.out a e)⟩
  · go_enter Try.func33, Try.ntmps33
    go_upto_region 1 with (fail)
    refine name_wp (fun w1 => Below w.heap.size w w1 ∧ w1.heap[w.heap.size]? = some (.cells #[.int .u8 3, .int .u8 f, .int .i64 (nb : Int), .int .i64 l, .int .i64 W, .int .i64 c] 25 (0, 0))) ⟨(Below.refl _ _).alloc (Nat.le_refl _) _, alloc_at rfl⟩ ?_
    rintro w1 ⟨hb, k0⟩
    obtain ⟨c0, c1, c2, c3, c4, c5⟩ := blk6 k0
    go_wp2_with fail
    refine call_then (hC.out _) ?_
    intro w2 hb2
    replace hb := below_next hb hb.size hb2
    replace k0 := keeps hb2 k0
    clear hb2 c0 c1 c2 c3 c4 c5
    obtain ⟨c0, c1, c2, c3, c4, c5⟩ := blk6 k0
    go_wp2_with fail
    refine call_then (hM.out _) ?_
    intro w2 hb2
    replace hb := below_next hb hb.size hb2
    replace k0 := keeps hb2 k0
    clear hb2 c0 c1 c2 c3 c4 c5
    obtain ⟨c0, c1, c2, c3, c4, c5⟩ := blk6 k0
    go_wp2_with fail
    refine call_then (hF.out _ (hA.out.up hb)) ?_
    intro w2 hb2
    replace hb := below_next hb hb.size hb2
    replace k0 := keeps hb2 k0
    clear hb2 c0 c1 c2 c3 c4 c5
    obtain ⟨c0, c1, c2, c3, c4, c5⟩ := blk6 k0
    go_wp2_with fail
    refine call_then (hI.out _) ?_
    intro w2 hb2
    replace hb := below_next hb hb.size hb2
    replace k0 := keeps hb2 k0
    clear hb2 c0 c1 c2 c3 c4 c5
    obtain ⟨c0, c1, c2, c3, c4, c5⟩ := blk6 k0
    clear hC hM hF hI
    obtain ⟨cur, hmk, hcs⟩ := make_cap I (by omega) w2
    go_upto_region 9 with (fail)
    have hBw := hb.size
    have hpB := lt_of_get k0
    have hm3 := World.ownsRow_made (base := w2.heap.size) w2 cur I (Nat.le_refl _) (by unfold maxLen; omega) hcs (e := 56) (size := 2)
    refine name_wp (fun w3 => Below w.heap.size w w3 ∧ w3.heap[w.heap.size]? = some (.cells #[.int .u8 3, .int .u8 f, .int .i64 (nb : Int), .int .i64 l, .int .i64 W, .int .i64 c] 25 (0, 0)) ∧ w2.heap.size ≤ w3.heap.size ∧ w3.ownsRow w2.heap.size 56 2 (.slice (some ⟨w2.heap.size, 0, none⟩) 0 I) 0 (ecells [])) ⟨hb.alloc hb.size _, alloc_keeps k0, by simp, hm3⟩ ?_
    clear hb k0 hm3 hmk c0 c1 c2 c3 c4 c5
    generalize w2.heap.size = B0 at *
    rintro w3 ⟨hb, k0, hBs, hown⟩
    clear w2
    replace hBw := Lib.hid hBw
    replace hpB := Lib.hid hpB
    obtain ⟨c0, c1, c2, c3, c4, c5⟩ := blk6 k0
    go_wp2
    clear c0 c1 c2 c3 c4 c5
    go_loopw [50, 7] (fun i v wr => ∃ j : Nat, j ≤ N ∧ i = .int .i64 (j : Int) ∧ Below w.heap.size w wr ∧ wr.heap[w.heap.size]? = some (.cells #[.int .u8 3, .int .u8 f, .int .i64 (nb : Int), .int .i64 l, .int .i64 W, .int .i64 c] 25 (0, 0)) ∧ B0 ≤ wr.heap.size ∧ wr.ownsRow B0 56 2 v (j * nb) (ecells ((zs.take j).flatMap (fun z => bitsL z.toNat nb)))) (fun i _ _ => N - (intOf i).toNat)
    case atStart => exact ⟨0, Nat.zero_le _, rfl, hb, k0, hBs, by rw [Nat.zero_mul]; exact hown⟩
    case round =>
      clear hb k0 hown hBs
      obtain ⟨j, hj, rfl, hb, k0, hBs, hown⟩ := hrel
      obtain ⟨c0, c1, c2, c3, c4, c5⟩ := blk6 k0
      by_cases hlt : j < N
      · have j1 : (j : Int) < (N : Int) := by omega
        have j0 : (0 : Int) ≤ (j : Int) := by omega
        obtain ⟨p, o, rfl, hc⟩ := hA.out j (by rw [hl.out]; exact hlt)
        have hc2 := (hb.cell (World.block_lt_of_cell? _ _ hc)).trans hc
        have hx := hz.out.at_ (k := j) (by rw [hl.out]; exact hlt)
        have hsn := Lib.hid (flat_snoc (b := nb) (l := zs) (k := j) (by rw [hl.out]; exact hlt))
        have hjb : j * nb ≤ 64 * 32 := Nat.mul_le_mul (by omega) (by omega)
        have hjn : (j + 1) * nb = j * nb + nb := Nat.succ_mul _ _
        generalize zs.getD j 0 = z at *
        obtain ⟨Z, rfl⟩ := Int.eq_ofNat_of_zero_le hx.1
        rw [Int.toNat_natCast] at hsn
        have hbz := Lib.hid (hbits.out Z (by omega))
        obtain ⟨P, hP⟩ : ∃ P, j * nb = P := ⟨_, rfl⟩
        rw [hP] at hown hjb hjn
        replace hjn := Lib.hid hjn
        replace hP := Lib.hid hP
        clear hc
        go_wp2_with fail
        refine (hbz.out _).mono ?_
        rintro e w4 ⟨g, rfl, hb4, hg4, hrow⟩
        have hown4 := ownsn_up hown hb4
        have hb5 := below_next hb hb.size hb4
        have k5 := keeps hb4 k0
        have hBs5 := Nat.le_trans hBs hb4.size
        have hnews := row_news hrow
        have hlen : (ecells (bitsL Z nb)).length = nb * 2 := by rw [ecells_length, bitsL_length]
        have t1 : P + nb ≤ maxLen := by unfold maxLen; omega
        have t2 : (P + nb) * 16 ≤ 140737488355328 := by omega
        replace hown4 := Lib.hid hown4
        replace hnews := Lib.hid hnews
        replace hlen := Lib.hid hlen
        replace hb5 := Lib.hid hb5
        replace k5 := Lib.hid k5
        clear hown hb4 hb k0 hBs hbz c0 c1 c2 c3 c4 c5 hrow hg4
        go_wp2_with (at_builtin; refine wpList_append_own _ rfl _ _ 38 rfl B0 56 i0 (.agg #[.int .u64 0, .int .u64 0]) 2 16 Try.underlying38 hinf.out hz0 hz1 hz2 rfl (by decide) _ _ _ rfl hown4.out ⟨g, 0, none⟩ nb nb (ecells (bitsL Z nb)) rfl hlen.out hnews.out (ecells_one _) t1 t2 hBs5 ?_; intro v1 w6 hown6 hg6 _; have hb6 := grownn_below hb5.out hBw.out hown4.out hg6; have k6 := (hg6.block w.heap.size (lt_of_get k5.out) (fun e => by have := (hown4.out.lt _ e.symm).1; have := hpB.out; omega)).trans k5.out; have hBs6 := Nat.le_trans hBs5 hg6.size; clear hg6)
        refine ⟨⟨j + 1, by omega, by go_num, hb6, k6, hBs6, ?_⟩, by simp [intOf]; omega⟩
        rw [hjn.out, hsn.out]
        exact hown6
      · obtain rfl : N = j := by omega
        rw [List.take_of_length_le (by rw [hl.out]; exact Nat.le_refl _)] at hown
        obtain ⟨a9, c9, rfl, hel, hlc, hfr⟩ := owns_out hown
        obtain ⟨L, hL⟩ : ∃ L, zs.flatMap (fun z => bitsL z.toNat nb) = L := ⟨_, rfl⟩
        rw [hL] at hel hlc ⊢
        replace hL := Lib.hid hL
        replace hel := Lib.hid hel
        replace hlc := Lib.hid hlc
        replace hfr := Lib.hid hfr
        clear hown
        have j1 : ¬ (N : Int) < (N : Int) := by omega
        go_wp2
        go_ret2
        rw [hL.out]
        exact ⟨_, _, rfl, hb, hel.out, hlc.out, fun a e => Nat.le_trans hBw.out (hfr.out a e)⟩
end Go.Proofs.Ytgdokfchfgnbbaa
