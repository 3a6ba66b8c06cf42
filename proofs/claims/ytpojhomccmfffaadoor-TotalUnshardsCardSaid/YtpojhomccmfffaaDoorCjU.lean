/-
  What of a vector is summed.
-/
import Derived.Test.YtpojhomccmfffaaDoorDD
import Derived.Test.YtpojhomccmfffaaDoorBA
import Derived.Test.YtpojhomccmfffaaDoorBX
namespace Go.Proofs.YtpojhomccmfffaaDoor
open Go.RowKit Flow F
set_option linter.unusedVariables false
set_option linter.unusedSimpArgs false
attribute [local go_sem] eql_elem

/-- Piece number so of so many elements. -/
def piece (xs : List Int) (b i : Nat) : List Int := (xs.drop (i * b)).take b
/-- What of a vector is summed. -/
def truncF (x : Ci) (xs : List Int) (i : Nat) : Int := if x.k = 2 ∨ x.k = 3 then numF x.f (piece xs x.b.toNat i) else add x.f 0 (xs.getD i 0)
def truncL (x : Ci) (xs : List Int) : List Int := (List.range x.outN).map (truncF x xs)
theorem truncL_length (x : Ci) (xs : List Int) : (truncL x xs).length = x.outN := by simp [truncL]
theorem truncF_bound (x : Ci) (xs : List Int) (i : Nat) : 0 ≤ truncF x xs i ∧ truncF x xs i < M x.f := by
  unfold truncF
  split
  · exact numF_bound _ _
  · exact add_bound _ _ _
def rangeL (h : Nat → Int) (n : Nat) : List Int := (List.range n).map h
theorem rangeL_set (h : Nat → Int) {n j : Nat} (hj : j < n) : (rangeL h j ++ List.replicate (n - j) 0).set j (h j) = rangeL h (j + 1) ++ List.replicate (n - (j + 1)) 0 := by
  have hl : (rangeL h j).length = j := by simp [rangeL]
  rw [List.set_append_right _ _ (by omega), hl, Nat.sub_self, show n - j = (n - (j + 1)) + 1 by omega, List.replicate_succ, List.set_cons_zero]
  simp [rangeL, List.range_succ]
theorem trunc_code (x : Ci) (A : Option Addr) (N cp : Nat) (h : x.code ≠ 0) (w : World) : Calls Tryd.prog 23 #[cvl x, .slice A N cp] w fun e w' => e = .returned (.tuple #[.slice none 0 0, .int .i64 x.code]) ∧ Below w.heap.size w w' := by
  obtain ⟨k, f, b, l, W, c⟩ := x
  have hC := fun w => ccheck_any k f b l W c w
  unfold cvl
  generalize (Ci.mk k f b l W c).code = z at *
  have h1 : (z != 0) = true := by simpa using h
  replace hC := Lib.hid hC
  clear h
  go_enter Tryd.func23, Tryd.ntmps23
  go_upto_region 1 with (fail)
  refine name_wp (fun w1 => Below w.heap.size w w1 ∧ w1.heap[w.heap.size]? = some (.cells #[.int .u8 k, .int .u8 f, .int .i64 b, .int .i64 l, .int .i64 W, .int .i64 c] 31 (0, 0))) ⟨(Below.refl _ _).alloc (Nat.le_refl _) _, alloc_at rfl⟩ ?_
  rintro w1 ⟨hb, k0⟩
  obtain ⟨c0, c1, c2, c3, c4, c5⟩ := blk6 k0
  go_wp2_with fail
  refine call_then (hC.out _) ?_
  intro w2 hb2
  replace hb := below_next hb hb.size hb2
  replace k0 := keeps hb2 k0
  clear hb2 c0 c1 c2 c3 c4 c5
  obtain ⟨c0, c1, c2, c3, c4, c5⟩ := blk6 k0
  go_wp2
  go_ret2
  exact ⟨rfl, hb⟩
theorem trunc_size (x : Ci) (A : Option Addr) (N cp : Nat) (h : x.Good) (hN : N ≠ x.inN) (w : World) : Calls Tryd.prog 23 #[cvl x, .slice A N cp] w fun e w' => e = .returned (.tuple #[.slice none 0 0, .int .i64 9]) ∧ Below w.heap.size w w' := by
  have hz := h.code
  obtain ⟨k, f, b, l, W, c⟩ := x
  have hC := fun w => ccheck_any k f b l W c w
  have hI := fun w => cin_any k f b l W c h.fits w
  unfold cvl at *
  generalize (Ci.mk k f b l W c).inN = M at *
  rw [hz] at hC
  have n1 : ((N : Int) != (M : Int)) = true := by simp; omega
  have n2 : (N != M) = true := by simpa using hN
  replace hC := Lib.hid hC
  replace hI := Lib.hid hI
  clear h hN hz
  go_enter Tryd.func23, Tryd.ntmps23
  go_upto_region 1 with (fail)
  refine name_wp (fun w1 => Below w.heap.size w w1 ∧ w1.heap[w.heap.size]? = some (.cells #[.int .u8 k, .int .u8 f, .int .i64 b, .int .i64 l, .int .i64 W, .int .i64 c] 31 (0, 0))) ⟨(Below.refl _ _).alloc (Nat.le_refl _) _, alloc_at rfl⟩ ?_
  rintro w1 ⟨hb, k0⟩
  obtain ⟨c0, c1, c2, c3, c4, c5⟩ := blk6 k0
  go_wp2_with fail
  refine call_then (hC.out _) ?_
  intro w2 hb2
  replace hb := below_next hb hb.size hb2
  replace k0 := keeps hb2 k0
  clear hb2 c0 c1 c2 c3 c4 c5
  obtain ⟨c0, c1, c2, c3, c4, c5⟩ := blk6 k0
  go_wp2_with fail
  refine call_then (hI.out _) ?_
  intro w2 hb2
  replace hb := below_next hb hb.size hb2
  replace k0 := keeps hb2 k0
  clear hb2 c0 c1 c2 c3 c4 c5
  obtain ⟨c0, c1, c2, c3, c4, c5⟩ := blk6 k0
  go_wp2
  go_ret2
  exact ⟨rfl, hb⟩
def TrOut (L : List Int) (w : World) (e : Ending) (w' : World) : Prop := ∃ g, e = .returned (.tuple #[.slice (some ⟨g, 0, none⟩) L.length L.length, .int .i64 0]) ∧ Below w.heap.size w w' ∧ w.heap.size ≤ g ∧ Row w' g L
set_option maxRecDepth 20000 in
set_option maxHeartbeats 4000000 in
theorem trunc_bits (x : Ci) (h : x.Good) (h23 : x.k = 2 ∨ x.k = 3) (xs : List Int) (A : Option Addr) (N cp : Nat) (hl : xs.length = N) (hN : N = x.inN) (hcp : N ≤ cp) (hx : ElemsOK xs) (w : World) (hA : ElemsAt w A xs) :
    Calls Tryd.prog 23 #[cvl x, .slice A N cp] w (TrOut (truncL x xs) w) := by
  have hz := h.code
  have hO := out_any x h
  have fb := fb_of h.f
  have hO64 : x.outN ≤ 64 := by
    unfold Ci.outN
    have := h.fits.l
    have := h.fits.k1
    split <;> omega
  have hOI : ¬ (x.k = 2 ∨ x.k = 3) → x.outN ≤ x.inN := fun h23 => by
    have := h.fits.k1
    have := h.fits.k5
    have := h.fits.l
    unfold Ci.outN Ci.inN
    by_cases h1 : x.k = 1
    · rw [if_pos (.inl h1), if_pos h1]; omega
    · rw [if_neg (by omega), if_neg h1, if_neg (by omega), if_neg (by omega)]
      split <;> omega
  have hIO : (x.k = 2 ∨ x.k = 3) → x.inN = x.outN * x.b.toNat := fun h23 => by
    have := h.fits.k1
    unfold Ci.outN Ci.inN
    by_cases h2 : x.k = 2
    · rw [if_neg (by omega), if_pos h2, if_pos (.inr h2), Nat.one_mul]
    · rw [if_neg (by omega), if_neg h2, if_pos (by omega), if_neg (by omega), Nat.mul_comm]
  have hbb := h.fits.b
  have hIle := h.fits.in_le
  have hb2 := hbb h23
  obtain ⟨nb, hnb⟩ := Int.eq_ofNat_of_zero_le (show 0 ≤ x.b by omega)
  have hIOe := hIO h23
  have hnum := fun i (hi : i < x.outN) A c w hA => number_any x h (piece xs x.b.toNat i) A x.b.toNat c (by
    unfold piece
    rw [List.length_take, List.length_drop, hl, hN, hIOe]
    have h1 : (i + 1) * x.b.toNat ≤ x.outN * x.b.toNat := Nat.mul_le_mul_right _ hi
    rw [Nat.succ_mul] at h1
    omega) (by omega) (by omega) (fun y hy => hx y (List.mem_of_mem_drop (List.mem_of_mem_take hy))) w hA
  obtain ⟨T, hT⟩ : ∃ T, truncF x xs = T := ⟨_, rfl⟩
  have hTe : ∀ i, numF x.f (piece xs x.b.toNat i) = T i := fun i => by rw [← hT]; unfold truncF; rw [if_pos h23]
  have hTL : truncL x xs = rangeL T x.outN := by unfold truncL rangeL; rw [hT]
  rw [hTL]
  simp only [hTe] at hnum
  have hTb := fun i => truncF_bound x xs i
  rw [hT] at hTb
  rw [hnb, Int.toNat_natCast] at hnum hIOe
  rw [hnb] at hb2
  obtain ⟨k, f, b, l, W, c⟩ := x
  have hC := fun w => ccheck_any k f b l W c w
  have hI := fun w => cin_any k f b l W c h.fits w
  simp only at hnb h23 hnum
  subst hnb
  have hM := M_lt f
  replace hnum := Lib.hid hnum
  replace hTb := Lib.hid hTb
  clear hT hTe hTL hOI hIO hbb fb h
  have hkk : (k == 2) = true ∨ ((k == 2) = false ∧ (k == 3) = true) := by
    rcases h23 with rfl | rfl
    · exact .inl rfl
    · exact .inr ⟨rfl, rfl⟩
  clear h23
  unfold cvl NumBy at *
  rw [hz] at hC
  have hmk := make_elems (Ci.mk k f (nb : Int) l W c).outN (by omega)
  generalize (Ci.mk k f (nb : Int) l W c).outN = O at *
  generalize (Ci.mk k f (nb : Int) l W c).inN = I at *
  replace hC := Lib.hid hC
  replace hO := Lib.hid hO
  replace hI := Lib.hid hI
  replace hA := Lib.hid hA
  replace hl := Lib.hid hl
  replace hx := Lib.hid hx
  subst hN
  go_enter Tryd.func23, Tryd.ntmps23
  go_upto_region 1 with (fail)
  refine name_wp (fun w1 => Below w.heap.size w w1 ∧ w1.heap[w.heap.size]? = some (.cells #[.int .u8 k, .int .u8 f, .int .i64 (nb : Int), .int .i64 l, .int .i64 W, .int .i64 c] 31 (0, 0))) ⟨(Below.refl _ _).alloc (Nat.le_refl _) _, alloc_at rfl⟩ ?_
  rintro w1 ⟨hb, k0⟩
  obtain ⟨c0, c1, c2, c3, c4, c5⟩ := blk6 k0
  go_wp2_with fail
  refine call_then (hC.out _) ?_
  intro w2 hb2
  replace hb := below_next hb hb.size hb2
  replace k0 := keeps hb2 k0
  clear hb2 c0 c1 c2 c3 c4 c5
  obtain ⟨c0, c1, c2, c3, c4, c5⟩ := blk6 k0
  go_wp2_with fail
  refine call_then (hI.out _) ?_
  intro w2 hb2
  replace hb := below_next hb hb.size hb2
  replace k0 := keeps hb2 k0
  clear hb2 c0 c1 c2 c3 c4 c5
  obtain ⟨c0, c1, c2, c3, c4, c5⟩ := blk6 k0
  go_wp2_with fail
  refine call_then (hO.out _) ?_
  intro w2 hb2
  replace hb := below_next hb hb.size hb2
  replace k0 := keeps hb2 k0
  clear hb2 c0 c1 c2 c3 c4 c5
  obtain ⟨c0, c1, c2, c3, c4, c5⟩ := blk6 k0
  clear hC hO hI
  go_upto_region 7 with (fail)
  have hBw := hb.size
  have hpB := lt_of_get k0
  refine name_wp (fun w3 => Below w.heap.size w w3 ∧ w3.heap[w.heap.size]? = some (.cells #[.int .u8 k, .int .u8 f, .int .i64 (nb : Int), .int .i64 l, .int .i64 W, .int .i64 c] 31 (0, 0)) ∧ Row w3 w2.heap.size (rangeL T 0 ++ List.replicate (O - 0) 0)) ⟨hb.alloc hb.size _, alloc_keeps k0, (show Row _ _ (List.replicate O 0) from alloc_at rfl)⟩ ?_
  clear hb k0 hmk c0 c1 c2 c3 c4 c5
  generalize w2.heap.size = g at *
  rintro w3 ⟨hb, k0, hr⟩
  clear w2
  replace hBw := Lib.hid hBw
  replace hpB := Lib.hid hpB
  go_wp2
  go_loopw [24] (fun i wr => ∃ j : Nat, j ≤ O ∧ i = .int .i64 (j : Int) ∧ Below w.heap.size w wr ∧ wr.heap[w.heap.size]? = some (.cells #[.int .u8 k, .int .u8 f, .int .i64 (nb : Int), .int .i64 l, .int .i64 W, .int .i64 c] 31 (0, 0)) ∧ Row wr g (rangeL T j ++ List.replicate (O - j) 0)) (fun i _ => O - (intOf i).toNat)
  case atStart => exact ⟨0, Nat.zero_le _, rfl, hb, k0, hr⟩
  case round =>
    clear hb k0 hr
    obtain ⟨j, hj, rfl, hb, k0, hr⟩ := hrel
    obtain ⟨c0, c1, c2, c3, c4, c5⟩ := blk6 k0
    by_cases hlt : j < O
    · have j1 : (j : Int) < (O : Int) := by omega
      have j0 : (0 : Int) ≤ (j : Int) := by omega
      have hle : (j + 1) * nb ≤ O * nb := Nat.mul_le_mul_right _ hlt
      have hON : O * nb = N := hIOe.symm
      rw [hON, Nat.succ_mul] at hle
      have hn := Lib.hid (hnum.out j hlt)
      obtain ⟨p, o, rfl, -, -⟩ := hA.out 0 (by rw [hl.out]; omega)
      have hpc : piece xs nb j = (xs.drop (j * nb)).take nb := rfl
      obtain ⟨P, hP⟩ : ∃ P, j * nb = P := ⟨_, rfl⟩
      obtain ⟨P2, hP2⟩ : ∃ P2, P + nb = P2 := ⟨_, rfl⟩
      have hPi : (j : Int) * (nb : Int) = (P : Int) := by rw [← hP, Int.natCast_mul]
      have hP2i : ((j : Int) + 1) * (nb : Int) = (P2 : Int) := by rw [Int.add_mul, hPi]; omega
      rw [hP, hP2] at hle
      rw [hP] at hpc
      have zP : IntKind.i64.wrap (P : Int) = (P : Int) := wrap_i rfl (by omega)
      have zP2 : IntKind.i64.wrap (P2 : Int) = (P2 : Int) := wrap_i rfl (by omega)
      have a0 : (0 : Int) ≤ (P : Int) := by omega
      have a1 : (P : Int) ≤ (P2 : Int) := by omega
      have a2 : (P2 : Int) ≤ (cp : Int) := by omega
      have a2' : (P : Int) ≤ (N : Int) := by omega
      have a2'' : (P2 : Int) ≤ (N : Int) := by omega
      have a3 : ¬ cp = P := by omega
      have a4 : ¬ P = cp := by omega
      have a5 : P2 - P = nb := by omega
      have hel := fun w hb => ((((hA.out.up hb).drop P).take nb) : ElemsAt w _ _)
      rw [← hpc] at hel
      replace hpc := Lib.hid hpc
      replace hP := Lib.hid hP
      replace hP2 := Lib.hid hP2
      replace hel := Lib.hid hel
      have hn2 := Lib.hid (fun c w hb => hn.out (some ⟨p, o + P * 2, none⟩) c w (hel.out w hb))
      clear hON hn
      have hTj := hTb.out j
      rcases hkk with e2 | ⟨e2, e3⟩
      · go_upto_region 11 with (fail)
        clear c0 c1 c2 c3 c4 c5
        refine wp_region_flow1 16 (by kernel_rfl) (by kernel_rfl) (by kernel_rfl) ?_
        apply Exists.intro
        refine ⟨fun ι _ φ hφ => ?_, fun wt hwt => ?_⟩
        · have q := fun i => blk6 (keeps (hφ.old i) k0)
          have q0 := fun i => (q i).1
          have q1 := fun i => (q i).2.1
          have q2 := fun i => (q i).2.2.1
          have q3 := fun i => (q i).2.2.2.1
          have q4 := fun i => (q i).2.2.2.2.1
          have q5 := fun i => (q i).2.2.2.2.2
          clear q
          have hB := Lib.hid (fun i => below_next hb hb.size (hφ.old i))
          simp only [List.take_succ_cons, List.take_zero]
          repeat (go_big_quiet_step ((go_at_call 62; exact flow_call hφ (hn2.out _ _ (hB.out _)))))
          exact wpQuiet_nil rfl
        replace hb := below_next hb hb.size hwt
        replace k0 := keeps hwt k0
        replace hr := hr.up hwt
        clear hwt
        simp only [List.drop_succ_cons, List.drop_zero]
        have hlen : j < (rangeL T j ++ List.replicate (O - j) 0).length := by rw [List.length_append, List.length_replicate]; simp [rangeL]; omega
        have s0 := hr.lo hlen
        have s1 := hr.hi hlen
        have f0 := hr.free (j * 2)
        have f1 := hr.free (j * 2 + 1)
        have hr4 := hr.set hlen (T j)
        rw [rangeL_set T hlt] at hr4
        have hb4 := below_store2' hb hBw.out (u := .int .u64 (lo (T j))) (v := .int .u64 (hi (T j))) (i := j * 2) (k := j * 2 + 1)
        have k4 := store2_farx k0 (show w.heap.size ≠ g by have := hpB.out; omega) (u := .int .u64 (lo (T j))) (v := .int .u64 (hi (T j))) (i := j * 2) (j := j * 2 + 1)
        replace hlen := Lib.hid hlen
        replace hr4 := Lib.hid hr4
        replace hb4 := Lib.hid hb4
        replace k4 := Lib.hid k4
        clear hb k0 hr
        go_wp2
        exact ⟨⟨j + 1, by omega, by go_num, hb4.out, k4.out, hr4.out⟩, by simp [intOf]; omega⟩
      · go_upto_region 11 with (fail)
        clear c0 c1 c2 c3 c4 c5
        refine wp_region_flow1 16 (by kernel_rfl) (by kernel_rfl) (by kernel_rfl) ?_
        apply Exists.intro
        refine ⟨fun ι _ φ hφ => ?_, fun wt hwt => ?_⟩
        · have q := fun i => blk6 (keeps (hφ.old i) k0)
          have q0 := fun i => (q i).1
          have q1 := fun i => (q i).2.1
          have q2 := fun i => (q i).2.2.1
          have q3 := fun i => (q i).2.2.2.1
          have q4 := fun i => (q i).2.2.2.2.1
          have q5 := fun i => (q i).2.2.2.2.2
          clear q
          have hB := Lib.hid (fun i => below_next hb hb.size (hφ.old i))
          simp only [List.take_succ_cons, List.take_zero]
          repeat (go_big_quiet_step ((go_at_call 62; exact flow_call hφ (hn2.out _ _ (hB.out _)))))
          exact wpQuiet_nil rfl
        replace hb := below_next hb hb.size hwt
        replace k0 := keeps hwt k0
        replace hr := hr.up hwt
        clear hwt
        simp only [List.drop_succ_cons, List.drop_zero]
        have hlen : j < (rangeL T j ++ List.replicate (O - j) 0).length := by rw [List.length_append, List.length_replicate]; simp [rangeL]; omega
        have s0 := hr.lo hlen
        have s1 := hr.hi hlen
        have f0 := hr.free (j * 2)
        have f1 := hr.free (j * 2 + 1)
        have hr4 := hr.set hlen (T j)
        rw [rangeL_set T hlt] at hr4
        have hb4 := below_store2' hb hBw.out (u := .int .u64 (lo (T j))) (v := .int .u64 (hi (T j))) (i := j * 2) (k := j * 2 + 1)
        have k4 := store2_farx k0 (show w.heap.size ≠ g by have := hpB.out; omega) (u := .int .u64 (lo (T j))) (v := .int .u64 (hi (T j))) (i := j * 2) (j := j * 2 + 1)
        replace hlen := Lib.hid hlen
        replace hr4 := Lib.hid hr4
        replace hb4 := Lib.hid hb4
        replace k4 := Lib.hid k4
        clear hb k0 hr
        go_wp2
        exact ⟨⟨j + 1, by omega, by go_num, hb4.out, k4.out, hr4.out⟩, by simp [intOf]; omega⟩
    · obtain rfl : O = j := by omega
      rw [Nat.sub_self, List.replicate_zero, List.append_nil] at hr
      have j1 : ¬ (O : Int) < (O : Int) := by omega
      go_wp2
      go_ret2
      exact ⟨g, by simp [rangeL], hb, hBw.out, hr⟩
set_option maxRecDepth 20000 in
set_option maxHeartbeats 4000000 in
theorem trunc_rest (x : Ci) (h : x.Good) (h23 : ¬ (x.k = 2 ∨ x.k = 3)) (xs : List Int) (A : Option Addr) (N cp : Nat) (hl : xs.length = N) (hN : N = x.inN) (hcp : N ≤ cp) (hx : ElemsOK xs) (w : World) (hA : ElemsAt w A xs) :
    Calls Tryd.prog 23 #[cvl x, .slice A N cp] w (TrOut (truncL x xs) w) := by
  have hz := h.code
  have hO := out_any x h
  have fb := fb_of h.f
  have hO64 : x.outN ≤ 64 := by
    unfold Ci.outN
    have := h.fits.l
    have := h.fits.k1
    split <;> omega
  have hOI : ¬ (x.k = 2 ∨ x.k = 3) → x.outN ≤ x.inN := fun h23 => by
    have := h.fits.k1
    have := h.fits.k5
    have := h.fits.l
    unfold Ci.outN Ci.inN
    by_cases h1 : x.k = 1
    · rw [if_pos (.inl h1), if_pos h1]; omega
    · rw [if_neg (by omega), if_neg h1, if_neg (by omega), if_neg (by omega)]
      split <;> omega
  have hIO : (x.k = 2 ∨ x.k = 3) → x.inN = x.outN * x.b.toNat := fun h23 => by
    have := h.fits.k1
    unfold Ci.outN Ci.inN
    by_cases h2 : x.k = 2
    · rw [if_neg (by omega), if_pos h2, if_pos (.inr h2), Nat.one_mul]
    · rw [if_neg (by omega), if_neg h2, if_pos (by omega), if_neg (by omega), Nat.mul_comm]
  have hbb := h.fits.b
  have hIle := h.fits.in_le
  have hOIe := hOI h23
  have hsm := fun (z : Int) (hz : 0 ≤ z ∧ z < 340282366920938463463374607431768211456) B w (hB : ElemsAt w B [z]) => fsum_gen x.f (add x.f) [z] B 1 (fun y hy => by rw [List.mem_singleton.1 hy]; exact hz) (by unfold maxLen; simp) fb.hadd w hB
  have hsf : ∀ z, List.foldl (add x.f) 0 [z] = add x.f 0 z := fun z => rfl
  simp only [hsf] at hsm
  obtain ⟨T, hT⟩ : ∃ T, truncF x xs = T := ⟨_, rfl⟩
  have hTe : ∀ i, add x.f 0 (xs.getD i 0) = T i := fun i => by rw [← hT]; unfold truncF; rw [if_neg h23]
  have hTL : truncL x xs = rangeL T x.outN := by unfold truncL rangeL; rw [hT]
  rw [hTL]
  have hTb := fun i => truncF_bound x xs i
  rw [hT] at hTb
  obtain ⟨k, f, b, l, W, c⟩ := x
  have hC := fun w => ccheck_any k f b l W c w
  have hI := fun w => cin_any k f b l W c h.fits w
  simp only at h23 hsm hTe
  have hM := M_lt f
  have e2 : (k == 2) = false := by simp; omega
  have e3 : (k == 3) = false := by simp; omega
  replace hsm := Lib.hid hsm
  replace hTb := Lib.hid hTb
  replace hTe := Lib.hid hTe
  clear hT hTL hOI hIO hbb fb h h23 hsf
  unfold cvl NumBy at *
  rw [hz] at hC
  have hmk := make_elems (Ci.mk k f b l W c).outN (by omega)
  generalize (Ci.mk k f b l W c).outN = O at *
  generalize (Ci.mk k f b l W c).inN = I at *
  replace hC := Lib.hid hC
  replace hO := Lib.hid hO
  replace hI := Lib.hid hI
  replace hA := Lib.hid hA
  replace hl := Lib.hid hl
  replace hx := Lib.hid hx
  subst hN
  go_enter Tryd.func23, Tryd.ntmps23
  go_upto_region 1 with (fail)
  refine name_wp (fun w1 => Below w.heap.size w w1 ∧ w1.heap[w.heap.size]? = some (.cells #[.int .u8 k, .int .u8 f, .int .i64 b, .int .i64 l, .int .i64 W, .int .i64 c] 31 (0, 0))) ⟨(Below.refl _ _).alloc (Nat.le_refl _) _, alloc_at rfl⟩ ?_
  rintro w1 ⟨hb, k0⟩
  obtain ⟨c0, c1, c2, c3, c4, c5⟩ := blk6 k0
  go_wp2_with fail
  refine call_then (hC.out _) ?_
  intro w2 hb2
  replace hb := below_next hb hb.size hb2
  replace k0 := keeps hb2 k0
  clear hb2 c0 c1 c2 c3 c4 c5
  obtain ⟨c0, c1, c2, c3, c4, c5⟩ := blk6 k0
  go_wp2_with fail
  refine call_then (hI.out _) ?_
  intro w2 hb2
  replace hb := below_next hb hb.size hb2
  replace k0 := keeps hb2 k0
  clear hb2 c0 c1 c2 c3 c4 c5
  obtain ⟨c0, c1, c2, c3, c4, c5⟩ := blk6 k0
  go_wp2_with fail
  refine call_then (hO.out _) ?_
  intro w2 hb2
  replace hb := below_next hb hb.size hb2
  replace k0 := keeps hb2 k0
  clear hb2 c0 c1 c2 c3 c4 c5
  obtain ⟨c0, c1, c2, c3, c4, c5⟩ := blk6 k0
  clear hC hO hI
  go_upto_region 7 with (fail)
  have hBw := hb.size
  have hpB := lt_of_get k0
  refine name_wp (fun w3 => Below w.heap.size w w3 ∧ w3.heap[w.heap.size]? = some (.cells #[.int .u8 k, .int .u8 f, .int .i64 b, .int .i64 l, .int .i64 W, .int .i64 c] 31 (0, 0)) ∧ Row w3 w2.heap.size (rangeL T 0 ++ List.replicate (O - 0) 0)) ⟨hb.alloc hb.size _, alloc_keeps k0, (show Row _ _ (List.replicate O 0) from alloc_at rfl)⟩ ?_
  clear hb k0 hmk c0 c1 c2 c3 c4 c5
  generalize w2.heap.size = g at *
  rintro w3 ⟨hb, k0, hr⟩
  clear w2
  replace hBw := Lib.hid hBw
  replace hpB := Lib.hid hpB
  go_wp2
  go_loopw [24] (fun i wr => ∃ j : Nat, j ≤ O ∧ i = .int .i64 (j : Int) ∧ Below w.heap.size w wr ∧ wr.heap[w.heap.size]? = some (.cells #[.int .u8 k, .int .u8 f, .int .i64 b, .int .i64 l, .int .i64 W, .int .i64 c] 31 (0, 0)) ∧ Row wr g (rangeL T j ++ List.replicate (O - j) 0)) (fun i _ => O - (intOf i).toNat)
  case atStart => exact ⟨0, Nat.zero_le _, rfl, hb, k0, hr⟩
  case round =>
    clear hb k0 hr
    obtain ⟨j, hj, rfl, hb, k0, hr⟩ := hrel
    obtain ⟨c0, c1, c2, c3, c4, c5⟩ := blk6 k0
    by_cases hlt : j < O
    · have j1 : (j : Int) < (O : Int) := by omega
      have j0 : (0 : Int) ≤ (j : Int) := by omega
      have j2 : (j : Int) < (N : Int) := by omega
      obtain ⟨p, o, rfl, hc0, hc1⟩ := (hA.out.up hb) j (by rw [hl.out]; omega)
      have hz := hx.out.at_ (k := j) (by rw [hl.out]; omega)
      have hTj := hTe.out j
      have hTbj := hTb.out j
      generalize xs.getD j 0 = z at *
      have hsz := fun B w hB => hsm.out z hz B w hB
      rw [hTj] at hsz
      replace hsz := Lib.hid hsz
      replace hTj := Lib.hid hTj
      have zl := lo_lt z
      go_upto_region 12 with (fail)
      clear c0 c1 c2 c3 c4 c5
      refine seg_start 11 (by kernel_rfl) (by decide) ?_
      intro v0 hv
      have hc0' := (hv.cell (World.block_lt_of_cell? _ _ hc0)).trans hc0
      have hc1' := (hv.cell (World.block_lt_of_cell? _ _ hc1)).trans hc1
      clear hc0 hc1
      have hc0 := hc0'
      have hc1 := hc1'
      clear hc0' hc1'
      replace hb := below_next hb hb.size hv
      replace k0 := keeps hv k0
      replace hr := hr.up hv
      clear hv
      refine seg_batch 3 [0, 1, 2, 3, 4, 5, 6, 7] (by kernel_rfl) rfl (by kernel_rfl) (by kernel_rfl) (by kernel_rfl) ?_
      apply Exists.intro
      refine ⟨fun ι _ φ hφ => ?_, fun v1 hv => ?_⟩
      · have q1 := fun i => (blk6 (keeps (hφ.old i) k0)).2.1
        have q8 := fun i => hφ.cell hc0 i
        have q9 := fun i => hφ.cell hc1 i
        repeat (refine pick_step rfl ?_; go_big_quiet_step (fail))
        exact pick_end
      have hc0' := (hv.cell (World.block_lt_of_cell? _ _ hc0)).trans hc0
      have hc1' := (hv.cell (World.block_lt_of_cell? _ _ hc1)).trans hc1
      clear hc0 hc1
      have hc0 := hc0'
      have hc1 := hc1'
      clear hc0' hc1'
      replace hb := below_next hb hb.size hv
      replace k0 := keeps hv k0
      replace hr := hr.up hv
      clear hv
      clear hc0 hc1
      refine seg_one 8 _ (by decide) rfl (by kernel_rfl) ?_
      intro v2 K' hv hK
      replace hb := below_next hb hb.size hv
      replace k0 := keeps hv k0
      replace hr := hr.up hv
      clear hv
      replace hK := Lib.hid hK
      go_simp
      refine hK.out _ _ ((Below.refl _ _).alloc (Nat.le_refl _) _) ?_
      clear hK
      have hrz : Row (v2.alloc (.cells #[.int .u64 (lo z), .int .u64 (hi z)] 65)) v2.heap.size [z] := (show Row _ _ _ from alloc_at rfl)
      replace hb := hb.alloc hb.size (.cells #[.int .u64 (lo z), .int .u64 (hi z)] 65)
      replace k0 := alloc_keeps (o := .cells #[.int .u64 (lo z), .int .u64 (hi z)] 65) k0
      replace hr := hr.alloc (.cells #[.int .u64 (lo z), .int .u64 (hi z)] 65)
      generalize (v2.alloc (.cells #[.int .u64 (lo z), .int .u64 (hi z)] 65)) = v3 at *
      generalize v2.heap.size = gz at *
      refine seg_batch 0 [9, 10] (by kernel_rfl) rfl (by kernel_rfl) (by kernel_rfl) (by kernel_rfl) ?_
      apply Exists.intro
      refine ⟨fun ι _ φ hφ => ?_, fun v4 hv => ?_⟩
      · have hs2 := Lib.hid (fun i => hsz.out (some ⟨gz, 0, none⟩) (φ i) ((hrz.up (hφ.old i)).elems))
        repeat (refine pick_step rfl ?_; go_big_quiet_step ((go_at_call 63; exact flow_call hφ (hs2.out _))))
        exact pick_end
      replace hb := below_next hb hb.size hv
      replace k0 := keeps hv k0
      replace hr := hr.up hv
      clear hv
      refine seg_tail (by kernel_rfl) ?_
      intro v5 hv
      replace hb := below_next hb hb.size hv
      replace k0 := keeps hv k0
      replace hr := hr.up hv
      clear hv
      clear hrz v0 v1 v2 v3 v4
      simp only [List.drop_succ_cons, List.drop_zero]
      have hlen : j < (rangeL T j ++ List.replicate (O - j) 0).length := by rw [List.length_append, List.length_replicate]; simp [rangeL]; omega
      have s0 := hr.lo hlen
      have s1 := hr.hi hlen
      have f0 := hr.free (j * 2)
      have f1 := hr.free (j * 2 + 1)
      have hr4 := hr.set hlen (T j)
      rw [rangeL_set T hlt] at hr4
      have hb4 := below_store2' hb hBw.out (u := .int .u64 (lo (T j))) (v := .int .u64 (hi (T j))) (i := j * 2) (k := j * 2 + 1)
      have k4 := store2_farx k0 (show w.heap.size ≠ g by have := hpB.out; omega) (u := .int .u64 (lo (T j))) (v := .int .u64 (hi (T j))) (i := j * 2) (j := j * 2 + 1)
      replace hlen := Lib.hid hlen
      replace hr4 := Lib.hid hr4
      replace hb4 := Lib.hid hb4
      replace k4 := Lib.hid k4
      clear hb k0 hr
      go_wp2
      refine calm_normal ?_
      go_wp2
      exact ⟨⟨j + 1, by omega, by go_num, hb4.out, k4.out, hr4.out⟩, by simp [intOf]; omega⟩
    · obtain rfl : O = j := by omega
      rw [Nat.sub_self, List.replicate_zero, List.append_nil] at hr
      have j1 : ¬ (O : Int) < (O : Int) := by omega
      go_wp2
      go_ret2
      exact ⟨g, by simp [rangeL], hb, hBw.out, hr⟩
/-- What of a vector is summed. -/
theorem trunc_ok (x : Ci) (h : x.Good) (xs : List Int) (A : Option Addr) (N cp : Nat) (hl : xs.length = N) (hN : N = x.inN) (hcp : N ≤ cp) (hx : ElemsOK xs) (w : World) (hA : ElemsAt w A xs) :
    Calls Tryd.prog 23 #[cvl x, .slice A N cp] w (TrOut (truncL x xs) w) := by
  by_cases h23 : x.k = 2 ∨ x.k = 3
  · exact trunc_bits x h h23 xs A N cp hl hN hcp hx w hA
  · exact trunc_rest x h h23 xs A N cp hl hN hcp hx w hA
end Go.Proofs.YtpojhomccmfffaaDoor
