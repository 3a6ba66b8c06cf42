/-
  The number that bits say; is a vector right?
-/
import Derived.Test.YtgdokfchfgnbbaaCjF
import Derived.Test.YtgdokfchfgnbbaaCjM
import Derived.Test.YtgdokfchfgnbbaaBE
namespace Go.Proofs.Ytgdokfchfgnbbaa
open Go.RowKit Flow F
set_option linter.unusedVariables false
set_option linter.unusedSimpArgs false
attribute [local go_sem] eql_elem

theorem numF_bound (f : Int) (xs : List Int) : 0 ≤ numF f xs ∧ numF f xs < M f := by
  rcases xs.eq_nil_or_concat with rfl | ⟨ys, x, rfl⟩
  · exact ⟨Int.le_refl _, M_pos f⟩
  · rw [List.concat_eq_append, numF_snoc]
    exact add_bound _ _ _
theorem sumF_bound (f : Int) (xs : List Int) : 0 ≤ sumF f xs ∧ sumF f xs < M f := by
  rcases xs.eq_nil_or_concat with rfl | ⟨ys, x, rfl⟩
  · exact ⟨Int.le_refl _, M_pos f⟩
  · rw [List.concat_eq_append, sumF_snoc]
    exact add_bound _ _ _
theorem number_any (x : Ci) (h : x.Good) (xs : List Int) (A : Option Addr) (m c : Nat) (hl : xs.length = m) (h1 : 1 ≤ m) (hm : m ≤ 4096) (hx : ElemsOK xs) (w : World) (hA : ElemsAt w A xs) :
    Calls Try.prog 74 #[cvl x, .slice A m c] w fun e w' => e = .returned (.agg #[.int .u64 (lo (numF x.f xs)), .int .u64 (hi (numF x.f xs))]) ∧ Below w.heap.size w w' := by
  have fb := fb_of h.f
  obtain ⟨k, f, b, l, W, c'⟩ := x
  simp only at fb ⊢
  have hof := fb.hof 2 (by omega) (by omega)
  rw [show F.lo 2 = 2 by decide, show F.hi 2 = 0 by decide] at hof
  have hpw := fun w => fpowers_any f 2 m (mul f) (by omega) (by omega) (by omega) hm fb.hval fb.hone fb.hmul w
  rw [show F.lo 2 = 2 by decide, show F.hi 2 = 0 by decide] at hpw
  have hpl := powers_length (mul f) 2 m
  have hpo : ElemsOK (powers (mul f) 2 m) := fun y hy => by
    unfold powers at hy
    obtain ⟨i, _, rfl⟩ := List.mem_map.1 hy
    exact power_ok (op := mul f) (a := 2) (fun z z0 z1 => (fb.hmul z 2 z0 z1 (by omega) (by omega)).1) i
  have hdt := fun B d w hA hB => fdot_any f (mul f) (add f) xs (powers (mul f) 2 m) A B c d hx hpo (by omega) (by rw [hpl, hl]) fb.hval fb.hmul fb.hadd w hA hB
  rw [hl, hpl] at hdt
  have hnf : numF f xs = (List.zipWith (mul f) xs (powers (mul f) 2 m)).foldl (add f) 0 := by unfold numF; rw [hl]
  rw [← hnf] at hdt
  have hnb := numF_bound f xs
  have hM := M_lt f
  generalize numF f xs = v at *
  generalize powers (mul f) 2 m = ps at *
  unfold cvl
  replace hof := Lib.hid hof
  replace hpw := Lib.hid hpw
  replace hdt := Lib.hid hdt
  replace hA := Lib.hid hA
  replace hl := Lib.hid hl
  clear h fb hpl hpo hnf hx
  go_enter Try.func74, Try.ntmps74
  go_upto_region 1 with (fail)
  refine name_wp (fun w1 => Below w.heap.size w w1 ∧ w1.heap[w.heap.size]? = some (.cells #[.int .u8 k, .int .u8 f, .int .i64 b, .int .i64 l, .int .i64 W, .int .i64 c'] 25 (0, 0)) ∧ w1.heap[w.heap.size + 1]? = some (.cells #[.int .u64 0, .int .u64 0] 56 (0, 0))) ⟨((Below.refl _ _).alloc (Nat.le_refl _) _).alloc (by simp) _, alloc_keeps (alloc_at rfl), alloc_at (by simp)⟩ ?_
  rintro w1 ⟨hb, k0, k1⟩
  obtain ⟨c0, c1, c2, c3, c4, c5⟩ := blk6 k0
  go_wp2_with fail
  refine call_then (hof.out _) ?_
  intro w2 hv
  replace hb := below_next hb hb.size hv
  replace k1 := keeps hv k1
  clear k0 c0 c1 c2 c3 c4 c5 hv
  go_wp2_with fail
  refine (hpw.out _).mono ?_
  rintro e w3 ⟨g, rfl, hv, hg, hrow⟩
  replace hb := below_next hb hb.size hv
  replace k1 := keeps hv k1
  have hdt2 := Lib.hid (hdt.out (some ⟨g, 0, none⟩) m w3 (hA.out.up hb) hrow.elems)
  clear hv hrow hg
  go_wp2_with fail
  refine call_then hdt2.out ?_
  intro w4 hv
  replace hb := below_next hb hb.size hv
  replace k1 := keeps hv k1
  clear hdt2 hv
  have hsz := hb.size
  have hlt := lt_of_get k1
  obtain ⟨d0, d1, d2, d3⟩ := blk2 k1
  go_wp2
  have kk := alloc_keeps (o := .cells #[.int .u64 (F.lo v), .int .u64 (F.hi v)] 56 (0, 0)) (store2 (u := .int .u64 (F.lo v)) (v := .int .u64 (F.hi v)) k1)
  have hb4 := below_store2' hb (show w.heap.size ≤ w.heap.size + 1 by omega) (u := .int .u64 (F.lo v)) (v := .int .u64 (F.hi v)) (i := 0) (k := 1)
  obtain ⟨z0, z1, _, _⟩ := blk2 kk
  exact bodyPost_ret (v := .agg #[.int .u64 (F.lo v), .int .u64 (F.hi v)]) (by simp [results, Try.results74, go_sem, z0, z1]) rfl ⟨rfl, hb4.alloc hb4.size _⟩
/-- Is a vector right? -/
def validB (x : Ci) (xs : List Int) : Bool := bitsB xs && (if x.k = 4 then decide (ones xs = 1) else if x.k = 5 then decide (ones (xs.take x.l.toNat) + offN x.w.toNat = said (xs.drop x.l.toNat)) else true)
theorem bitsB_snoc (l : List Int) (x : Int) : bitsB (l ++ [x]) = (bitsB l && (x == 0 || x == 1)) := by rw [bitsB_append]; simp [bitsB]
theorem bitsB_of_take {l : List Int} {k : Nat} (h : k < l.length) (h0 : l.getD k 0 ≠ 0) (h1 : l.getD k 0 ≠ 1) : bitsB l = false := by
  unfold bitsB
  rw [List.all_eq_false]
  refine ⟨l[k], List.getElem_mem h, ?_⟩
  rw [List.getD_eq_getElem?_getD, List.getElem?_eq_getElem h] at h0 h1
  simpa using And.intro h0 h1
theorem valid_size (x : Ci) (A : Option Addr) (N c : Nat) (h : x.code = 0 → N ≠ x.inN) (w : World) : Calls Try.prog 36 #[cvl x, .slice A N c] w fun e w' => e = .returned (.bool false) ∧ Below w.heap.size w w' := by
  have hR := fun w => right_any x w
  by_cases hz : x.code = 0
  · have hI := fun w => cin_any x.k x.f x.b x.l x.w x.c (Ci.good hz).fits w
    rw [show (Ci.mk x.k x.f x.b x.l x.w x.c) = x from rfl] at hI
    have hn := h hz
    rw [decide_eq_true hz] at hR
    obtain ⟨k, f, b, l, W, c⟩ := x
    unfold cvl at *
    simp only at hI
    generalize (Ci.mk k f b l W c).inN = I at *
    have n1 : ((N : Int) != (I : Int)) = true := by simp; omega
    have n2 : (N != I) = true := by simpa using hn
    replace hR := Lib.hid hR
    replace hI := Lib.hid hI
    clear h hn hz
    go_enter Try.func36, Try.ntmps36
    go_upto_region 1 with (fail)
    refine name_wp (fun w1 => Below w.heap.size w w1 ∧ w1.heap[w.heap.size]? = some (.cells #[.int .u8 k, .int .u8 f, .int .i64 b, .int .i64 l, .int .i64 W, .int .i64 c] 25 (0, 0))) ⟨(Below.refl _ _).alloc (Nat.le_refl _) _, alloc_at rfl⟩ ?_
    rintro w1 ⟨hb, k0⟩
    obtain ⟨c0, c1, c2, c3, c4, c5⟩ := blk6 k0
    go_wp2_with fail
    refine call_then (hR.out _) ?_
    intro w2 hb2
    replace hb := below_next hb hb.size hb2
    replace k0 := keeps hb2 k0
    clear hb2 c0 c1 c2 c3 c4 c5
    obtain ⟨c0, c1, c2, c3, c4, c5⟩ := blk6 k0
    go_wp2_with fail
    refine call_then (hI.out _) ?_
    intro w2 hb2
    replace hb := below_next hb hb.size hb2
    replace k0 := keeps hb2 k0
    clear hb2 c0 c1 c2 c3 c4 c5
    obtain ⟨c0, c1, c2, c3, c4, c5⟩ := blk6 k0
    go_wp2
    go_ret
    exact ⟨rfl, hb⟩
  · rw [decide_eq_false hz] at hR
    obtain ⟨k, f, b, l, W, c⟩ := x
    unfold cvl at *
    replace hR := Lib.hid hR
    clear h hz
    go_enter Try.func36, Try.ntmps36
    go_upto_region 1 with (fail)
    refine name_wp (fun w1 => Below w.heap.size w w1 ∧ w1.heap[w.heap.size]? = some (.cells #[.int .u8 k, .int .u8 f, .int .i64 b, .int .i64 l, .int .i64 W, .int .i64 c] 25 (0, 0))) ⟨(Below.refl _ _).alloc (Nat.le_refl _) _, alloc_at rfl⟩ ?_
    rintro w1 ⟨hb, k0⟩
    obtain ⟨c0, c1, c2, c3, c4, c5⟩ := blk6 k0
    go_wp2_with fail
    refine call_then (hR.out _) ?_
    intro w2 hb2
    replace hb := below_next hb hb.size hb2
    replace k0 := keeps hb2 k0
    clear hb2 c0 c1 c2 c3 c4 c5
    obtain ⟨c0, c1, c2, c3, c4, c5⟩ := blk6 k0
    go_wp2
    go_ret
    exact ⟨rfl, hb⟩
theorem lo_nat {n : Nat} (h : n < 18446744073709551616) : lo (n : Int) = (n : Int) := by unfold lo; omega
theorem hi_nat {n : Nat} (h : n < 18446744073709551616) : hi (n : Int) = 0 := by unfold hi; omega
theorem ElemsAt.take {w : World} {A : Option Addr} {xs : List Int} (h : ElemsAt w A xs) (l : Nat) : ElemsAt w A (xs.take l) := fun k hk => by
  rw [List.length_take] at hk
  obtain ⟨b, o, e, h0, h1⟩ := h k (by omega)
  have e2 : (xs.take l).getD k 0 = xs.getD k 0 := by
    rw [List.getD_eq_getElem?_getD, List.getD_eq_getElem?_getD, List.getElem?_take_of_lt (by omega)]
  rw [e2]
  exact ⟨b, o, e, h0, h1⟩
theorem ElemsAt.drop {w : World} {p o : Nat} {xs : List Int} (h : ElemsAt w (some ⟨p, o, none⟩) xs) (l : Nat) : ElemsAt w (some ⟨p, o + l * 2, none⟩) (xs.drop l) := fun k hk => by
  rw [List.length_drop] at hk
  obtain ⟨b, o', e, h0, h1⟩ := h (l + k) (by omega)
  cases e
  have e2 : (xs.drop l).getD k 0 = xs.getD (l + k) 0 := by
    rw [List.getD_eq_getElem?_getD, List.getD_eq_getElem?_getD, List.getElem?_drop]
  rw [e2]
  refine ⟨p, o + l * 2, rfl, ?_, ?_⟩
  · rw [show o + l * 2 + k * 2 = o + (l + k) * 2 by omega]; exact h0
  · rw [show o + l * 2 + k * 2 + 1 = o + (l + k) * 2 + 1 by omega]; exact h1
theorem bitsB_take {xs : List Int} (h : bitsB xs = true) (l : Nat) : bitsB (xs.take l) = true := by
  unfold bitsB at *
  rw [List.all_eq_true] at *
  exact fun x hx => h x (List.mem_of_mem_take hx)
theorem bitsB_drop {xs : List Int} (h : bitsB xs = true) (l : Nat) : bitsB (xs.drop l) = true := by
  unfold bitsB at *
  rw [List.all_eq_true] at *
  exact fun x hx => h x (List.mem_of_mem_drop hx)
set_option maxRecDepth 20000 in
set_option maxHeartbeats 4000000 in
theorem valid_rest (x : Ci) (h : x.Good) (h4 : x.k ≠ 4) (h5 : x.k ≠ 5) (xs : List Int) (A : Option Addr) (N cp : Nat) (hl : xs.length = N) (hN : N = x.inN) (hx : InF x.f xs) (w : World) (hA : ElemsAt w A xs) : Calls Try.prog 36 #[cvl x, .slice A N cp] w fun e w' => e = .returned (.bool (validB x xs)) ∧ Below w.heap.size w w' := by
  have hR := fun w => right_good h w
  have hI := fun w => cin_any x.k x.f x.b x.l x.w x.c h.fits w
  have hle := h.fits.in_le
  have fb := fb_of h.f
  rw [show (Ci.mk x.k x.f x.b x.l x.w x.c) = x from rfl, ← hN] at hI
  obtain ⟨k, f, b, l, W, c⟩ := x
  simp only at h4 h5
  have n4 : (k == 4) = false := by simpa using h4
  have n5 : (k == 5) = false := by simpa using h5
  have hend : bitsB xs = true → validB (Ci.mk k f b l W c) xs = true := fun e => by unfold validB; rw [e, if_neg h4, if_neg h5]; rfl
  replace hend := Lib.hid hend
  clear h4 h5
  have hadd := Lib.hid fb.hadd
  have hone := Lib.hid fb.hone
  unfold cvl at *
  simp only at hI hx hadd hone
  rw [← hN] at hle
  replace hR := Lib.hid hR
  replace hI := Lib.hid hI
  replace hA := Lib.hid hA
  replace hl := Lib.hid hl
  replace hN := Lib.hid hN
  replace hx := Lib.hid hx
  replace h := Lib.hid h
  go_enter Try.func36, Try.ntmps36
  go_upto_region 1 with (fail)
  refine name_wp (fun w1 => Below w.heap.size w w1 ∧ w1.heap[w.heap.size]? = some (.cells #[.int .u8 k, .int .u8 f, .int .i64 b, .int .i64 l, .int .i64 W, .int .i64 c] 25 (0, 0))) ⟨(Below.refl _ _).alloc (Nat.le_refl _) _, alloc_at rfl⟩ ?_
  rintro w1 ⟨hb, k0⟩
  obtain ⟨c0, c1, c2, c3, c4, c5⟩ := blk6 k0
  go_wp2_with fail
  refine call_then (hR.out _) ?_
  intro w2 hb2
  replace hb := below_next hb hb.size hb2
  replace k0 := keeps hb2 k0
  clear hb2 c0 c1 c2 c3 c4 c5
  obtain ⟨c0, c1, c2, c3, c4, c5⟩ := blk6 k0
  go_wp2_with fail
  refine call_then (hI.out _) ?_
  intro w2 hb2
  replace hb := below_next hb hb.size hb2
  replace k0 := keeps hb2 k0
  clear hb2 c0 c1 c2 c3 c4 c5
  obtain ⟨c0, c1, c2, c3, c4, c5⟩ := blk6 k0
  clear hR hI
  go_wp2
  clear c0 c1 c2 c3 c4 c5
  go_loopw [23] (fun i wr => ∃ j : Nat, j ≤ N ∧ i = .int .i64 (j : Int) ∧ Below w.heap.size w wr ∧ wr.heap[w.heap.size]? = some (.cells #[.int .u8 k, .int .u8 f, .int .i64 b, .int .i64 l, .int .i64 W, .int .i64 c] 25 (0, 0)) ∧ Hid (bitsB (xs.take j) = true)) (fun i _ => N - (intOf i).toNat)
  case atStart => exact ⟨0, Nat.zero_le _, rfl, hb, k0, Lib.hid rfl⟩
  case round =>
    clear hb k0
    obtain ⟨j, hj, rfl, hb, k0, hall⟩ := hrel
    by_cases hlt : j < N
    · have j1 : (j : Int) < (N : Int) := by omega
      have j0 : (0 : Int) ≤ (j : Int) := by omega
      obtain ⟨p, o, rfl, hc0, hc1⟩ := hA.out j (by rw [hl.out]; exact hlt)
      have hd0 := (hb.cell (World.block_lt_of_cell? _ _ hc0)).trans hc0
      have hd1 := (hb.cell (World.block_lt_of_cell? _ _ hc1)).trans hc1
      have hz := hx.out.at_ (k := j) (by rw [hl.out]; exact hlt)
      have hsn := take_snocD (l := xs) (k := j) (by rw [hl.out]; exact hlt)
      have hbad := bitsB_of_take (l := xs) (k := j) (by rw [hl.out]; exact hlt)
      generalize xs.getD j 0 = z at *
      have hM := M_lt f
      have hsm := fun B w (hB : ElemsAt w B [z]) => fsum_gen f (add f) [z] B 1 (fun y hy => by rw [List.mem_singleton.1 hy]; omega) (by unfold maxLen; simp) hadd.out w hB
      have hfd : List.foldl (add f) 0 [z] = z := add_zero_in hz.1 hz.2
      rw [hfd] at hsm
      have hll := hb.size
      clear hc0 hc1 hfd
      replace hsm := Lib.hid hsm
      replace hsn := Lib.hid hsn
      replace hbad := Lib.hid hbad
      have hel : ElemsAt ((wr.alloc (.cells #[.int .u64 (lo z), .int .u64 (hi z)] 56)).alloc (.cells #[.int .u64 (lo z), .int .u64 (hi z)] 56)) (some ⟨wr.heap.size + 1, 0, none⟩) [z] := Row.elems (show Row _ _ _ from alloc_at (by simp))
      have hb4 := (hb.alloc hb.size (.cells #[.int .u64 (lo z), .int .u64 (hi z)] 56)).alloc (by have := hb.size; simp; omega) (.cells #[.int .u64 (lo z), .int .u64 (hi z)] 56)
      have k4 := alloc_keeps (o := .cells #[.int .u64 (lo z), .int .u64 (hi z)] 56) (alloc_keeps (o := .cells #[.int .u64 (lo z), .int .u64 (hi z)] 56) k0)
      replace hel := Lib.hid hel
      replace hb4 := Lib.hid hb4
      replace k4 := Lib.hid k4
      clear hb k0
      go_wp2_with fail
      refine call_then (hsm.out _ _ hel.out) ?_
      intro w4 hv
      have hb5 := below_next hb4.out hb4.out.size hv
      have k5 := keeps hv k4.out
      clear hv hel hb4 k4 hd0 hd1 hsm hll
      go_upto_region 8 with (fail)
      refine name_wp (fun w5 => Below w.heap.size w w5 ∧ w5.heap[w.heap.size]? = some (.cells #[.int .u8 k, .int .u8 f, .int .i64 b, .int .i64 l, .int .i64 W, .int .i64 c] 25 (0, 0)) ∧ w5.heap[w4.heap.size]? = some (.cells #[.int .u64 (lo z), .int .u64 (hi z)] 56 (0, 0))) ⟨hb5.alloc hb5.size _, alloc_keeps k5, alloc_at rfl⟩ ?_
      clear hb5 k5
      generalize w4.heap.size = q at *
      clear w4
      rintro w5 ⟨hb, k0, kq⟩
      by_cases hz0 : z = 0
      · subst hz0
        have hall2 : Hid (bitsB (xs.take (j + 1)) = true) := Lib.hid (by rw [hsn.out, bitsB_snoc, hall.out]; rfl)
        rw [show lo 0 = 0 by decide, show hi 0 = 0 by decide] at *
        refine wp_region_flow0 (by kernel_rfl) (by kernel_rfl) ?_
        intro ι _ φ hφ
        obtain ⟨q0, q1⟩ := hφ.two kq
        repeat (go_big_quiet_step ((go_at_call 68; exact flow_call hφ (hone.out _))))
        refine wpQuiet_nil ?_
        intro w6 hv
        replace hb := below_next hb hb.size hv
        replace k0 := keeps hv k0
        clear hv q0 q1 kq hφ
        go_wp2
        exact ⟨⟨j + 1, by omega, by go_num, hb, k0, hall2⟩, by simp [intOf]; omega⟩
      · by_cases hz1 : z = 1
        · subst hz1
          have hall2 : Hid (bitsB (xs.take (j + 1)) = true) := Lib.hid (by rw [hsn.out, bitsB_snoc, hall.out]; rfl)
          rw [show lo 1 = 1 by decide, show hi 1 = 0 by decide] at *
          refine wp_region_flow0 (by kernel_rfl) (by kernel_rfl) ?_
          intro ι _ φ hφ
          obtain ⟨q0, q1⟩ := hφ.two kq
          repeat (go_big_quiet_step ((go_at_call 68; exact flow_call hφ (hone.out _))))
          refine wpQuiet_nil ?_
          intro w6 hv
          replace hb := below_next hb hb.size hv
          replace k0 := keeps hv k0
          clear hv q0 q1 kq hφ
          go_wp2
          exact ⟨⟨j + 1, by omega, by go_num, hb, k0, hall2⟩, by simp [intOf]; omega⟩
        · have hv : validB (Ci.mk k f b l W c) xs = false := by unfold validB; rw [hbad.out hz0 hz1]; rfl
          have e0 : (lo z == 0 && hi z == 0) = false := by
            have h1 := val_lohi z
            rw [Bool.and_eq_false_iff]
            by_cases h2 : lo z = 0
            · right; rw [beq_eq_false_iff_ne]; intro h3; rw [h2, h3] at h1; apply hz0; rw [← h1]; rfl
            · left; simpa using h2
          have e1 : (lo z == 1 && hi z == 0) = false := by
            have h1 := val_lohi z
            rw [Bool.and_eq_false_iff]
            by_cases h2 : lo z = 1
            · right; rw [beq_eq_false_iff_ne]; intro h3; rw [h2, h3] at h1; apply hz1; rw [← h1]; rfl
            · left; simpa using h2
          clear hz0 hz1
          replace hv := Lib.hid hv
          refine wp_region_flow0 (by kernel_rfl) (by kernel_rfl) ?_
          intro ι _ φ hφ
          obtain ⟨q0, q1⟩ := hφ.two kq
          repeat (go_big_quiet_step ((go_at_call 68; exact flow_call hφ (hone.out _))))
          refine wpQuiet_nil ?_
          intro w6 hv
          replace hb := below_next hb hb.size hv
          replace k0 := keeps hv k0
          clear hv q0 q1 kq hφ
          go_wp2
          go_ret
          exact ⟨by rw [hv.out]; rfl, hb⟩
    · obtain rfl : N = j := by omega
      rw [List.take_of_length_le (by rw [hl.out]; exact Nat.le_refl _)] at hall
      have j1 : ¬ (N : Int) < (N : Int) := by omega
      obtain ⟨c0, c1, c2, c3, c4, c5⟩ := blk6 k0
      go_wp2
      go_ret
      exact ⟨by rw [hend.out hall.out]; rfl, hb⟩
set_option maxRecDepth 20000 in
set_option maxHeartbeats 4000000 in
theorem valid_hist (x : Ci) (h : x.Good) (h4 : x.k = 4) (xs : List Int) (A : Option Addr) (N cp : Nat) (hl : xs.length = N) (hN : N = x.inN) (hx : InF x.f xs) (w : World) (hA : ElemsAt w A xs) : Calls Try.prog 36 #[cvl x, .slice A N cp] w fun e w' => e = .returned (.bool (validB x xs)) ∧ Below w.heap.size w w' := by
  have hR := fun w => right_good h w
  have hI := fun w => cin_any x.k x.f x.b x.l x.w x.c h.fits w
  have hle := h.fits.in_le
  have fb := fb_of h.f
  rw [show (Ci.mk x.k x.f x.b x.l x.w x.c) = x from rfl, ← hN] at hI
  have hsm := fun c w hA => fsum_gen x.f (add x.f) xs A c hx.ok (by unfold maxLen; rw [hl, hN]; omega) fb.hadd w hA
  have hsb := fun e => sumF_bits x.f (xs := xs) e (by rw [hl, hN]; omega)
  have hol := fun e => ones_le (xs := xs) e
  rw [show List.foldl (add x.f) 0 xs = sumF x.f xs from rfl] at hsm
  rw [hl] at hol hsm
  obtain ⟨k, f, b, l, W, c⟩ := x
  simp only at h4 hsm hsb
  subst h4
  have hend : bitsB xs = true → validB (Ci.mk 4 f b l W c) xs = decide (ones xs = 1) := fun e => by unfold validB; rw [e]; rfl
  replace hend := Lib.hid hend
  replace hsm := Lib.hid hsm
  replace hsb := Lib.hid hsb
  replace hol := Lib.hid hol
  have hadd := Lib.hid fb.hadd
  have hone := Lib.hid fb.hone
  unfold cvl at *
  simp only at hI hx hadd hone
  rw [← hN] at hle
  replace hR := Lib.hid hR
  replace hI := Lib.hid hI
  replace hA := Lib.hid hA
  replace hl := Lib.hid hl
  replace hN := Lib.hid hN
  replace hx := Lib.hid hx
  replace h := Lib.hid h
  go_enter Try.func36, Try.ntmps36
  go_upto_region 1 with (fail)
  refine name_wp (fun w1 => Below w.heap.size w w1 ∧ w1.heap[w.heap.size]? = some (.cells #[.int .u8 4, .int .u8 f, .int .i64 b, .int .i64 l, .int .i64 W, .int .i64 c] 25 (0, 0))) ⟨(Below.refl _ _).alloc (Nat.le_refl _) _, alloc_at rfl⟩ ?_
  rintro w1 ⟨hb, k0⟩
  obtain ⟨c0, c1, c2, c3, c4, c5⟩ := blk6 k0
  go_wp2_with fail
  refine call_then (hR.out _) ?_
  intro w2 hb2
  replace hb := below_next hb hb.size hb2
  replace k0 := keeps hb2 k0
  clear hb2 c0 c1 c2 c3 c4 c5
  obtain ⟨c0, c1, c2, c3, c4, c5⟩ := blk6 k0
  go_wp2_with fail
  refine call_then (hI.out _) ?_
  intro w2 hb2
  replace hb := below_next hb hb.size hb2
  replace k0 := keeps hb2 k0
  clear hb2 c0 c1 c2 c3 c4 c5
  obtain ⟨c0, c1, c2, c3, c4, c5⟩ := blk6 k0
  clear hR hI
  go_wp2
  clear c0 c1 c2 c3 c4 c5
  go_loopw [23] (fun i wr => ∃ j : Nat, j ≤ N ∧ i = .int .i64 (j : Int) ∧ Below w.heap.size w wr ∧ wr.heap[w.heap.size]? = some (.cells #[.int .u8 4, .int .u8 f, .int .i64 b, .int .i64 l, .int .i64 W, .int .i64 c] 25 (0, 0)) ∧ Hid (bitsB (xs.take j) = true)) (fun i _ => N - (intOf i).toNat)
  case atStart => exact ⟨0, Nat.zero_le _, rfl, hb, k0, Lib.hid rfl⟩
  case round =>
    clear hb k0
    obtain ⟨j, hj, rfl, hb, k0, hall⟩ := hrel
    by_cases hlt : j < N
    · have j1 : (j : Int) < (N : Int) := by omega
      have j0 : (0 : Int) ≤ (j : Int) := by omega
      obtain ⟨p, o, rfl, hc0, hc1⟩ := hA.out j (by rw [hl.out]; exact hlt)
      have hd0 := (hb.cell (World.block_lt_of_cell? _ _ hc0)).trans hc0
      have hd1 := (hb.cell (World.block_lt_of_cell? _ _ hc1)).trans hc1
      have hz := hx.out.at_ (k := j) (by rw [hl.out]; exact hlt)
      have hsn := take_snocD (l := xs) (k := j) (by rw [hl.out]; exact hlt)
      have hbad := bitsB_of_take (l := xs) (k := j) (by rw [hl.out]; exact hlt)
      generalize xs.getD j 0 = z at *
      have hM := M_lt f
      have hsm := fun B w (hB : ElemsAt w B [z]) => fsum_gen f (add f) [z] B 1 (fun y hy => by rw [List.mem_singleton.1 hy]; omega) (by unfold maxLen; simp) hadd.out w hB
      have hfd : List.foldl (add f) 0 [z] = z := add_zero_in hz.1 hz.2
      rw [hfd] at hsm
      have hll := hb.size
      clear hc0 hc1 hfd
      replace hsm := Lib.hid hsm
      replace hsn := Lib.hid hsn
      replace hbad := Lib.hid hbad
      have hel : ElemsAt ((wr.alloc (.cells #[.int .u64 (lo z), .int .u64 (hi z)] 56)).alloc (.cells #[.int .u64 (lo z), .int .u64 (hi z)] 56)) (some ⟨wr.heap.size + 1, 0, none⟩) [z] := Row.elems (show Row _ _ _ from alloc_at (by simp))
      have hb4 := (hb.alloc hb.size (.cells #[.int .u64 (lo z), .int .u64 (hi z)] 56)).alloc (by have := hb.size; simp; omega) (.cells #[.int .u64 (lo z), .int .u64 (hi z)] 56)
      have k4 := alloc_keeps (o := .cells #[.int .u64 (lo z), .int .u64 (hi z)] 56) (alloc_keeps (o := .cells #[.int .u64 (lo z), .int .u64 (hi z)] 56) k0)
      replace hel := Lib.hid hel
      replace hb4 := Lib.hid hb4
      replace k4 := Lib.hid k4
      clear hb k0
      go_wp2_with fail
      refine call_then (hsm.out _ _ hel.out) ?_
      intro w4 hv
      have hb5 := below_next hb4.out hb4.out.size hv
      have k5 := keeps hv k4.out
      clear hv hel hb4 k4 hd0 hd1 hsm hll
      go_upto_region 8 with (fail)
      refine name_wp (fun w5 => Below w.heap.size w w5 ∧ w5.heap[w.heap.size]? = some (.cells #[.int .u8 4, .int .u8 f, .int .i64 b, .int .i64 l, .int .i64 W, .int .i64 c] 25 (0, 0)) ∧ w5.heap[w4.heap.size]? = some (.cells #[.int .u64 (lo z), .int .u64 (hi z)] 56 (0, 0))) ⟨hb5.alloc hb5.size _, alloc_keeps k5, alloc_at rfl⟩ ?_
      clear hb5 k5
      generalize w4.heap.size = q at *
      clear w4
      rintro w5 ⟨hb, k0, kq⟩
      by_cases hz0 : z = 0
      · subst hz0
        have hall2 : Hid (bitsB (xs.take (j + 1)) = true) := Lib.hid (by rw [hsn.out, bitsB_snoc, hall.out]; rfl)
        rw [show lo 0 = 0 by decide, show hi 0 = 0 by decide] at *
        refine wp_region_flow0 (by kernel_rfl) (by kernel_rfl) ?_
        intro ι _ φ hφ
        obtain ⟨q0, q1⟩ := hφ.two kq
        repeat (go_big_quiet_step ((go_at_call 68; exact flow_call hφ (hone.out _))))
        refine wpQuiet_nil ?_
        intro w6 hv
        replace hb := below_next hb hb.size hv
        replace k0 := keeps hv k0
        clear hv q0 q1 kq hφ
        go_wp2
        exact ⟨⟨j + 1, by omega, by go_num, hb, k0, hall2⟩, by simp [intOf]; omega⟩
      · by_cases hz1 : z = 1
        · subst hz1
          have hall2 : Hid (bitsB (xs.take (j + 1)) = true) := Lib.hid (by rw [hsn.out, bitsB_snoc, hall.out]; rfl)
          rw [show lo 1 = 1 by decide, show hi 1 = 0 by decide] at *
          refine wp_region_flow0 (by kernel_rfl) (by kernel_rfl) ?_
          intro ι _ φ hφ
          obtain ⟨q0, q1⟩ := hφ.two kq
          repeat (go_big_quiet_step ((go_at_call 68; exact flow_call hφ (hone.out _))))
          refine wpQuiet_nil ?_
          intro w6 hv
          replace hb := below_next hb hb.size hv
          replace k0 := keeps hv k0
          clear hv q0 q1 kq hφ
          go_wp2
          exact ⟨⟨j + 1, by omega, by go_num, hb, k0, hall2⟩, by simp [intOf]; omega⟩
        · have hv : validB (Ci.mk 4 f b l W c) xs = false := by unfold validB; rw [hbad.out hz0 hz1]; rfl
          have e0 : (lo z == 0 && hi z == 0) = false := by
            have h1 := val_lohi z
            rw [Bool.and_eq_false_iff]
            by_cases h2 : lo z = 0
            · right; rw [beq_eq_false_iff_ne]; intro h3; rw [h2, h3] at h1; apply hz0; rw [← h1]; rfl
            · left; simpa using h2
          have e1 : (lo z == 1 && hi z == 0) = false := by
            have h1 := val_lohi z
            rw [Bool.and_eq_false_iff]
            by_cases h2 : lo z = 1
            · right; rw [beq_eq_false_iff_ne]; intro h3; rw [h2, h3] at h1; apply hz1; rw [← h1]; rfl
            · left; simpa using h2
          clear hz0 hz1
          replace hv := Lib.hid hv
          refine wp_region_flow0 (by kernel_rfl) (by kernel_rfl) ?_
          intro ι _ φ hφ
          obtain ⟨q0, q1⟩ := hφ.two kq
          repeat (go_big_quiet_step ((go_at_call 68; exact flow_call hφ (hone.out _))))
          refine wpQuiet_nil ?_
          intro w6 hv
          replace hb := below_next hb hb.size hv
          replace k0 := keeps hv k0
          clear hv q0 q1 kq hφ
          go_wp2
          go_ret
          exact ⟨by rw [hv.out]; rfl, hb⟩
    · obtain rfl : N = j := by omega
      rw [List.take_of_length_le (by rw [hl.out]; exact Nat.le_refl _)] at hall
      have j1 : ¬ (N : Int) < (N : Int) := by omega
      obtain ⟨c0, c1, c2, c3, c4, c5⟩ := blk6 k0
      have hsm2 := fun w hA => hsm.out cp w hA
      have ho := hol.out hall.out
      rw [hsb.out hall.out, lo_nat (by omega), hi_nat (by omega)] at hsm2
      have hend2 := Lib.hid (hend.out hall.out)
      generalize ones xs = n at *
      replace hsm2 := Lib.hid hsm2
      clear hsm hsb hol hend
      by_cases h1 : n = 1
      · subst h1
        go_wp2_with fail
        refine call_then (hsm2.out _ (hA.out.up hb)) ?_
        intro w4 hv
        replace hb := below_next hb hb.size hv
        clear hv hsm2 c0 c1 c2 c3 c4 c5 k0
        go_wp2_with fail
        refine call_then (hone.out _) ?_
        intro w5 hv
        replace hb := below_next hb hb.size hv
        clear hv
        go_wp2
        go_ret
        exact ⟨by rw [hend2.out]; rfl, hb⟩
      · have n1 : ((n : Int) == 1) = false := by simp; omega
        replace hend2 := Lib.hid (hend2.out.trans (decide_eq_false h1))
        clear h1
        go_wp2_with fail
        refine call_then (hsm2.out _ (hA.out.up hb)) ?_
        intro w4 hv
        replace hb := below_next hb hb.size hv
        clear hv hsm2 c0 c1 c2 c3 c4 c5 k0
        go_wp2_with fail
        refine call_then (hone.out _) ?_
        intro w5 hv
        replace hb := below_next hb hb.size hv
        clear hv
        go_wp2
        go_ret
        exact ⟨by rw [hend2.out]; rfl, hb⟩
end Go.Proofs.Ytgdokfchfgnbbaa
