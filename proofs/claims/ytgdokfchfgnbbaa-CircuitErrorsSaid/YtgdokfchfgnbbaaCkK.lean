/-
  What the gadget is asked of a chunk.
-/
import Derived.Test.YtgdokfchfgnbbaaCjU
namespace Go.Proofs.Ytgdokfchfgnbbaa
open Go.RowKit Flow F
set_option linter.unusedVariables false
set_option linter.unusedSimpArgs false
attribute [local go_sem] eql_elem

/-- A number's powers, beginning with itself. -/
def pwr (f r : Int) : Nat → Int
  | 0 => r
  | k + 1 => mul f (pwr f r k) r
theorem pwr_ok {f r : Int} (h : 0 ≤ r ∧ r < 340282366920938463463374607431768211456) : ∀ k, 0 ≤ pwr f r k ∧ pwr f r k < 340282366920938463463374607431768211456
  | 0 => h
  | k + 1 => by have := mul_bound f (pwr f r k) r; have := M_lt f; unfold pwr; omega
def prF (f r p : Int) (xs : List Int) (j : Nat) : Int := if j % 2 = 0 then mul f (pwr f r (j / 2)) (xs.getD (j / 2) 0) else sub f (xs.getD (j / 2) 0) p
theorem prF_even (f r p : Int) (xs : List Int) (j : Nat) : prF f r p xs (2 * j) = mul f (pwr f r j) (xs.getD j 0) := by unfold prF; rw [if_pos (by omega), show 2 * j / 2 = j by omega]
theorem prF_odd (f r p : Int) (xs : List Int) (j : Nat) : prF f r p xs (2 * j + 1) = sub f (xs.getD j 0) p := by unfold prF; rw [if_neg (by omega), show (2 * j + 1) / 2 = j by omega]
def prL (f r p : Int) (xs : List Int) (D : Nat) : List Int := rangeL (prF f r p xs) (2 * xs.length) ++ List.replicate (D - 2 * xs.length) 0
theorem prL_length {f r p : Int} {xs : List Int} {D : Nat} (h : 2 * xs.length ≤ D) : (prL f r p xs D).length = D := by
  unfold prL
  rw [List.length_append, List.length_replicate, rangeL, List.length_map, List.length_range]
  omega
theorem prF_bound (f r p : Int) (xs : List Int) (j : Nat) : 0 ≤ prF f r p xs j ∧ prF f r p xs j < M f := by
  unfold prF
  split
  · exact mul_bound _ _ _
  · exact sub_bound _ _ _
/-- An answer that is one row of elements, new. -/
def RowOut (L : List Int) (N : Nat) (w : World) (e : Ending) (w' : World) : Prop := ∃ g, e = .returned (.slice (some ⟨g, 0, none⟩) N N) ∧ Below w.heap.size w w' ∧ w.heap.size ≤ g ∧ Row w' g L
/-- The loop's memory. -/
structure PrW (w0 : World) (cs : Array Value) (r p : Int) (p1 p2 q g : Nat) (Q : Int) (X : List Int) (wr : World) : Prop where
  hb : Below w0.heap.size w0 wr
  k0 : wr.heap[w0.heap.size]? = some (.cells cs 25 (0, 0))
  kr : wr.heap[p1]? = some (.cells #[.int .u64 (lo r), .int .u64 (hi r)] 56 (0, 0))
  kp : wr.heap[p2]? = some (.cells #[.int .u64 (lo p), .int .u64 (hi p)] 56 (0, 0))
  kq : wr.heap[q]? = some (.cells #[.int .u64 (lo Q), .int .u64 (hi Q)] 56 (0, 0))
  hr : Row wr g X
theorem PrW.up {w0 : World} {cs : Array Value} {r p : Int} {p1 p2 q g : Nat} {Q : Int} {X : List Int} {wr w1 : World} (h : PrW w0 cs r p p1 p2 q g Q X wr) (hv : Below wr.heap.size wr w1) : PrW w0 cs r p p1 p2 q g Q X w1 :=
  ⟨below_next h.hb h.hb.size hv, keeps hv h.k0, keeps hv h.kr, keeps hv h.kp, keeps hv h.kq, h.hr.up hv⟩
theorem PrW.pow {w0 : World} {cs : Array Value} {r p : Int} {p1 p2 q g : Nat} {Q : Int} {X : List Int} {wr : World} (h : PrW w0 cs r p p1 p2 q g Q X wr) (h1 : w0.heap.size < q) (h2 : p1 ≠ q) (h3 : p2 ≠ q) (h4 : g ≠ q) (Q2 : Int) :
    PrW w0 cs r p p1 p2 q g Q2 X ((wr.setCell ⟨q, 0, none⟩ (.int .u64 (lo Q2))).setCell ⟨q, 1, none⟩ (.int .u64 (hi Q2))) :=
  ⟨below_store2 h.hb (Nat.le_of_lt h1), store2_far h.k0 (Nat.ne_of_lt h1), store2_far h.kr h2, store2_far h.kp h3, store2 h.kq, h.hr.far h4⟩
theorem PrW.row {w0 : World} {cs : Array Value} {r p : Int} {p1 p2 q g : Nat} {Q : Int} {X : List Int} {wr : World} (h : PrW w0 cs r p p1 p2 q g Q X wr) (h1 : w0.heap.size < g) (h2 : p1 ≠ g) (h3 : p2 ≠ g) (h4 : q ≠ g) {k : Nat} (hk : k < X.length) (z : Int) :
    PrW w0 cs r p p1 p2 q g Q (X.set k z) ((wr.setCell ⟨g, k * 2, none⟩ (.int .u64 (lo z))).setCell ⟨g, k * 2 + 1, none⟩ (.int .u64 (hi z))) :=
  ⟨below_store2' h.hb (Nat.le_of_lt h1), store2_farx h.k0 (Nat.ne_of_lt h1), store2_farx h.kr h2, store2_farx h.kp h3, store2_farx h.kq h4, h.hr.set hk z⟩
theorem rangeL_len (h : Nat → Int) {j D : Nat} (hj : j ≤ D) : (rangeL h j ++ List.replicate (D - j) 0).length = D := by rw [List.length_append, List.length_replicate]; simp [rangeL]; omega
set_option maxRecDepth 20000 in
set_option maxHeartbeats 4000000 in
theorem pairs_any (x : Ci) (h : x.Good) (xs : List Int) (A : Option Addr) (m cp : Nat) (r p : Int) (hl : xs.length = m) (hm : (m : Int) ≤ x.c) (hc : x.c ≤ 4096) (hx : ElemsOK xs) (hr0 : 0 ≤ r ∧ r < 340282366920938463463374607431768211456) (hp0 : 0 ≤ p ∧ p < 340282366920938463463374607431768211456) (w : World) (hA : ElemsAt w A xs) :
    Calls Try.prog 105 #[cvl x, .slice A m cp, .agg #[.int .u64 (lo r), .int .u64 (hi r)], .agg #[.int .u64 (lo p), .int .u64 (hi p)]] w (RowOut (prL x.f r p xs (2 * x.c.toNat)) (2 * x.c.toNat) w) := by
  have fb := fb_of h.f
  have hmul := fb.hmul
  have hsub := fb.hsub
  obtain ⟨T, hT⟩ : ∃ T, prF x.f r p xs = T := ⟨_, rfl⟩
  have hT0 : ∀ j, T (2 * j) = mul x.f (pwr x.f r j) (xs.getD j 0) := fun j => by rw [← hT, prF_even]
  have hT1 : ∀ j, T (2 * j + 1) = sub x.f (xs.getD j 0) p := fun j => by rw [← hT, prF_odd]
  have hTb : ∀ j, 0 ≤ T j ∧ T j < M x.f := fun j => by rw [← hT]; exact prF_bound _ _ _ _ _
  have hTL : prL x.f r p xs (2 * x.c.toNat) = rangeL T (2 * m) ++ List.replicate (2 * x.c.toNat - 2 * m) 0 := by unfold prL; rw [hT, hl]
  rw [hTL]
  clear hTL hT
  have hpw := pwr_ok (f := x.f) hr0
  obtain ⟨R, hR⟩ : ∃ R, pwr x.f r = R := ⟨_, rfl⟩
  have hR0 : R 0 = r := by rw [← hR]; rfl
  have hR1 : ∀ j, mul x.f (R j) r = R (j + 1) := fun j => by rw [← hR]; rfl
  rw [hR] at hT0 hpw
  clear hR
  obtain ⟨C, hC⟩ := Int.eq_ofNat_of_zero_le (show 0 ≤ x.c by omega)
  rw [hC] at hm hc
  rw [hC, Int.toNat_natCast]
  obtain ⟨k, f, b, l, W, c⟩ := x
  simp only at hC hmul hsub hT0 hT1 hTb hR1
  subst hC
  have hM := M_lt f
  unfold cvl
  obtain ⟨D, hD⟩ : ∃ D, 2 * C = D := ⟨_, rfl⟩
  have zD : IntKind.i64.wrap (2 * (C : Int)) = (D : Int) := wrap_i (by omega) (by omega)
  rw [hD]
  have hmk := make_elems D (by omega)
  have hmC : m ≤ C := by omega
  replace hD := Lib.hid hD
  replace hA := Lib.hid hA
  replace hl := Lib.hid hl
  replace hx := Lib.hid hx
  replace hmul := Lib.hid hmul
  replace hsub := Lib.hid hsub
  replace hT0 := Lib.hid hT0
  replace hT1 := Lib.hid hT1
  replace hTb := Lib.hid hTb
  replace hR0 := Lib.hid hR0
  replace hR1 := Lib.hid hR1
  replace hpw := Lib.hid hpw
  clear h fb
  go_enter Try.func105, Try.ntmps105
  go_upto_region 4 with (fail)
  refine name_wp (fun w3 => PrW w #[.int .u8 k, .int .u8 f, .int .i64 b, .int .i64 l, .int .i64 W, .int .i64 (C : Int)] r p (w.heap.size + 1) (w.heap.size + 1 + 1) (w.heap.size + 1 + 1 + 1 + 1) (w.heap.size + 1 + 1 + 1) (R 0) (rangeL T (2 * 0) ++ List.replicate (D - 2 * 0) 0) w3) ?_ ?_
  · have e0 : rangeL T (2 * 0) ++ List.replicate (D - 2 * 0) 0 = List.replicate D 0 := rfl
    rw [e0, hR0.out]
    refine ⟨((((((Below.refl _ _).alloc (Nat.le_refl _) _).alloc (by simp) _).alloc (by simp; omega) _).alloc (by simp; omega) _).alloc (by simp; omega) _), ?_, ?_, ?_, ?_, ?_⟩
    · exact alloc_keeps (alloc_keeps (alloc_keeps (alloc_keeps (alloc_at rfl))))
    · exact alloc_keeps (alloc_keeps (alloc_keeps (alloc_at (by simp))))
    · exact alloc_keeps (alloc_keeps (alloc_at (by simp)))
    · exact alloc_at (by simp)
    · exact alloc_keeps (alloc_at (by simp))
  intro w3 H
  generalize hq5 : w.heap.size + 1 + 1 + 1 + 1 = q at *
  generalize hg5 : w.heap.size + 1 + 1 + 1 = g at *
  generalize hp5 : w.heap.size + 1 + 1 = p2 at *
  generalize hr5 : w.heap.size + 1 = p1 at *
  have hh := Lib.hid (And.intro hr5 (And.intro hp5 (And.intro hg5 hq5)))
  clear hr5 hp5 hg5 hq5 hR0
  go_wp2
  go_loopw [23] (fun i wr => ∃ j : Nat, j ≤ m ∧ i = .int .i64 (j : Int) ∧ PrW w #[.int .u8 k, .int .u8 f, .int .i64 b, .int .i64 l, .int .i64 W, .int .i64 (C : Int)] r p p1 p2 q g (R j) (rangeL T (2 * j) ++ List.replicate (D - 2 * j) 0) wr) (fun i _ => m - (intOf i).toNat)
  case atStart => exact ⟨0, Nat.zero_le _, rfl, H⟩
  case round =>
    clear H
    obtain ⟨j, hj, rfl, H⟩ := hrel
    by_cases hlt : j < m
    · have j1 : (j : Int) < (m : Int) := by omega
      have j0 : (0 : Int) ≤ (j : Int) := by omega
      obtain ⟨pb, po, rfl, hc0, hc1⟩ := (hA.out.up H.hb) j (by rw [hl.out]; exact hlt)
      have hz := hx.out.at_ (k := j) (by rw [hl.out]; exact hlt)
      have hT0j := hT0.out j
      have hT1j := hT1.out j
      generalize xs.getD j 0 = z at *
      have hRj := hpw.out j
      have hm1 := Lib.hid ((hmul.out (R j) z hRj.1 hRj.2 hz.1 hz.2).2)
      have hm2 := Lib.hid ((hsub.out z p hz.1 hz.2 hp0.1 hp0.2).2)
      have hm3 := Lib.hid ((hmul.out (R j) r hRj.1 hRj.2 hr0.1 hr0.2).2)
      rw [← hT0j] at hm1
      rw [← hT1j] at hm2
      rw [hR1.out] at hm3
      clear hT0j hT1j hRj hz
      have hDo := hD.out
      obtain ⟨e, he⟩ : ∃ e, 2 * j = e := ⟨_, rfl⟩
      obtain ⟨e', he'⟩ : ∃ e', e + 1 = e' := ⟨_, rfl⟩
      have z1 : IntKind.i64.wrap (2 * (j : Int)) = (e : Int) := wrap_i (by omega) (by omega)
      have z2 : IntKind.i64.wrap ((e : Int) + 1) = (e' : Int) := wrap_i (by omega) (by omega)
      have i0 : (0 : Int) ≤ (e : Int) := by omega
      have i1 : (e : Int) < (D : Int) := by omega
      have i2 : (0 : Int) ≤ (e' : Int) := by omega
      have i3 : (e' : Int) < (D : Int) := by omega
      have l0 := rangeL_len T (show e ≤ D by omega)
      have l1 := rangeL_len T (show e' ≤ D by omega)
      have s0 := rangeL_set T (show e < D by omega)
      have s1 := rangeL_set T (show e' < D by omega)
      rw [he'] at s0
      rw [show e' + 1 = 2 * (j + 1) by omega] at s1
      rw [he] at hm1 H
      rw [he, he'] at hm2
      have le0 : e < (rangeL T e ++ List.replicate (D - e) 0).length := by rw [l0]; omega
      have le1 : e' < (rangeL T e' ++ List.replicate (D - e') 0).length := by rw [l1]; omega
      replace le0 := Lib.hid le0
      replace le1 := Lib.hid le1
      clear hDo
      clear l0 l1 he he'
      replace s0 := Lib.hid s0
      replace s1 := Lib.hid s1
      go_upto_region 7 with (fail)
      refine name_wp (fun w4 => PrW w #[.int .u8 k, .int .u8 f, .int .i64 b, .int .i64 l, .int .i64 W, .int .i64 (C : Int)] r p p1 p2 q g (R j) (rangeL T e ++ List.replicate (D - e) 0) w4 ∧ w4.heap[wr.heap.size]? = some (.cells #[.int .u64 (lo z), .int .u64 (hi z)] 56 (0, 0))) ⟨H.up ((Below.refl _ _).alloc (Nat.le_refl _) _), alloc_at rfl⟩ ?_
      rintro w4 ⟨H', kx⟩
      have hxg := Lib.hid (lt_of_get H.hr)
      have hxq := Lib.hid (lt_of_get H.kq)
      clear H hc0 hc1
      have H := H'
      clear H'
      generalize wr.heap.size = px at *
      obtain ⟨r0, r1, -, -⟩ := blk2 H.kr
      obtain ⟨p0, p1', -, -⟩ := blk2 H.kp
      obtain ⟨q0, q1, q2, q3⟩ := blk2 H.kq
      obtain ⟨x0, x1, -, -⟩ := blk2 kx
      go_wp2_with fail
      refine call_then (hm1.out _) ?_
      intro w5 hv
      replace H := H.up hv
      replace kx := keeps hv kx
      clear hv
      clear r0 r1 p0 p1' q0 q1 q2 q3 x0 x1
      have t0 := H.hr.lo le0.out
      have t1 := H.hr.hi le0.out
      have f0 := H.hr.free (e * 2)
      have f1 := H.hr.free (e * 2 + 1)
      go_upto_region 8 with (fail)
      refine name_wp (fun w6 => PrW w #[.int .u8 k, .int .u8 f, .int .i64 b, .int .i64 l, .int .i64 W, .int .i64 (C : Int)] r p p1 p2 q g (R j) (rangeL T e' ++ List.replicate (D - e') 0) w6 ∧ w6.heap[px]? = some (.cells #[.int .u64 (lo z), .int .u64 (hi z)] 56 (0, 0))) ⟨?_, store2_farx kx (Nat.ne_of_gt hxg.out)⟩ ?_
      · rw [← s0.out]
        have := hh.out
        exact H.row (by omega) (by omega) (by omega) (by omega) le0.out _
      clear H kx t0 t1 f0 f1
      rintro w6 ⟨H, kx⟩
      obtain ⟨r0, r1, -, -⟩ := blk2 H.kr
      obtain ⟨p0, p1', -, -⟩ := blk2 H.kp
      obtain ⟨q0, q1, q2, q3⟩ := blk2 H.kq
      obtain ⟨x0, x1, -, -⟩ := blk2 kx
      go_wp2_with fail
      refine call_then (hm2.out _) ?_
      intro w7 hv
      replace H := H.up hv
      replace kx := keeps hv kx
      clear hv
      clear r0 r1 p0 p1' q0 q1 q2 q3 x0 x1
      have t0 := H.hr.lo le1.out
      have t1 := H.hr.hi le1.out
      have f0 := H.hr.free (e' * 2)
      have f1 := H.hr.free (e' * 2 + 1)
      go_upto_region 9 with (fail)
      refine name_wp (fun w8 => PrW w #[.int .u8 k, .int .u8 f, .int .i64 b, .int .i64 l, .int .i64 W, .int .i64 (C : Int)] r p p1 p2 q g (R j) (rangeL T (2 * (j + 1)) ++ List.replicate (D - 2 * (j + 1)) 0) w8 ∧ w8.heap[px]? = some (.cells #[.int .u64 (lo z), .int .u64 (hi z)] 56 (0, 0))) ⟨?_, store2_farx kx (Nat.ne_of_gt hxg.out)⟩ ?_
      · rw [← s1.out]
        have := hh.out
        exact H.row (by omega) (by omega) (by omega) (by omega) le1.out _
      clear H kx t0 t1 f0 f1
      rintro w8 ⟨H, kx⟩
      obtain ⟨r0, r1, -, -⟩ := blk2 H.kr
      obtain ⟨p0, p1', -, -⟩ := blk2 H.kp
      obtain ⟨q0, q1, q2, q3⟩ := blk2 H.kq
      obtain ⟨x0, x1, -, -⟩ := blk2 kx
      go_wp2_with fail
      refine call_then (hm3.out _) ?_
      intro w9 hv
      replace H := H.up hv
      replace kx := keeps hv kx
      clear hv
      clear r0 r1 p0 p1' q0 q1 q2 q3 x0 x1
      obtain ⟨q0, q1, q2, q3⟩ := blk2 H.kq
      have H9 := H.pow (by have := hh.out; omega) (by have := hh.out; omega) (by have := hh.out; omega) (by have := hh.out; omega) (R (j + 1))
      replace H9 := Lib.hid H9
      clear H kx
      go_wp2
      exact ⟨⟨j + 1, by omega, by go_num, H9.out⟩, by simp [intOf]; omega⟩
    · obtain rfl : m = j := by omega
      have j1 : ¬ (m : Int) < (m : Int) := by omega
      go_wp2
      go_ret
      exact ⟨g, rfl, H.hb, by have := hh.out; omega, H.hr⟩
end Go.Proofs.Ytgdokfchfgnbbaa
