import Derived.Test.YtebgfelbffgnbaaGreatDoorCjU
import Derived.Defers
import Derived.Recover
/-
  What the gadget is asked of a chunk.
-/
namespace Go.Proofs.YtebgfelbffgnbaaGreatDoor
open Go.RowKit Flow F
set_option linter.unusedVariables false
set_option linter.unusedSimpArgs false
attribute [local go_sem] eql_elem

/-- A number's powers, beginning with itself. -/
def pwr (f r : Int) : Nat → Int
  | 0 => r
  | k + 1 => mul f (pwr f r k) r
theorem pwr_ok {f r : Int} (h : 0 ≤ r ∧ r < 340282366920938463463374607431768211456) : ∀ k, 0 ≤ pwr f r k ∧ pwr f r k < 340282366920938463463374607431768211456
  | 0 => h
  | k + 1 => by have := mul_bound f (pwr f r k) r; have := M_lt f; unfold pwr; omega
def prF (f r p : Int) (xs : List Int) (j : Nat) : Int := if j % 2 = 0 then mul f (pwr f r (j / 2)) (xs.getD (j / 2) 0) else sub f (xs.getD (j / 2) 0) p
theorem prF_even (f r p : Int) (xs : List Int) (j : Nat) : prF f r p xs (2 * j) = mul f (pwr f r j) (xs.getD j 0) := by unfold prF; rw [if_pos (by omega), show 2 * j / 2 = j by omega]
theorem prF_odd (f r p : Int) (xs : List Int) (j : Nat) : prF f r p xs (2 * j + 1) = sub f (xs.getD j 0) p := by unfold prF; rw [if_neg (by omega), show (2 * j + 1) / 2 = j by omega]
def prL (f r p : Int) (xs : List Int) (D : Nat) : List Int := rangeL (prF f r p xs) (2 * xs.length) ++ List.replicate (D - 2 * xs.length) 0
theorem prL_length {f r p : Int} {xs : List Int} {D : Nat} (h : 2 * xs.length ≤ D) : (prL f r p xs D).length = D := by
  unfold prL
  rw [List.length_append, List.length_replicate, rangeL, List.length_map, List.length_range]
  omega
theorem prF_bound (f r p : Int) (xs : List Int) (j : Nat) : 0 ≤ prF f r p xs j ∧ prF f r p xs j < M f := by
  unfold prF
  split
  · exact mul_bound _ _ _
  · exact sub_bound _ _ _
/-- An answer that is one row of elements, new. -/
def RowOut (L : List Int) (N : Nat) (w : World) (e : Ending) (w' : World) : Prop := ∃ g, e = .returned (.slice (some ⟨g, 0, none⟩) N N) ∧ Below w.heap.size w w' ∧ w.heap.size ≤ g ∧ Row w' g L
/-- The loop's memory. -/
structure PrW (w0 : World) (cs : Array Value) (r p : Int) (p1 p2 q g : Nat) (Q : Int) (X : List Int) (wr : World) : Prop where
  hb : Below w0.heap.size w0 wr
  k0 : wr.heap[w0.heap.size]? = some (.cells cs 33 (0, 0))
  kr : wr.heap[p1]? = some (.cells #[.int .u64 (lo r), .int .u64 (hi r)] 28 (0, 0))
  kp : wr.heap[p2]? = some (.cells #[.int .u64 (lo p), .int .u64 (hi p)] 28 (0, 0))
  kq : wr.heap[q]? = some (.cells #[.int .u64 (lo Q), .int .u64 (hi Q)] 28 (0, 0))
  hr : Row wr g X
theorem PrW.up {w0 : World} {cs : Array Value} {r p : Int} {p1 p2 q g : Nat} {Q : Int} {X : List Int} {wr w1 : World} (h : PrW w0 cs r p p1 p2 q g Q X wr) (hv : Below wr.heap.size wr w1) : PrW w0 cs r p p1 p2 q g Q X w1 :=
  ⟨below_next h.hb h.hb.size hv, keeps hv h.k0, keeps hv h.kr, keeps hv h.kp, keeps hv h.kq, h.hr.up hv⟩
theorem PrW.pow {w0 : World} {cs : Array Value} {r p : Int} {p1 p2 q g : Nat} {Q : Int} {X : List Int} {wr : World} (h : PrW w0 cs r p p1 p2 q g Q X wr) (h1 : w0.heap.size < q) (h2 : p1 ≠ q) (h3 : p2 ≠ q) (h4 : g ≠ q) (Q2 : Int) :
    PrW w0 cs r p p1 p2 q g Q2 X ((wr.setCell ⟨q, 0, none⟩ (.int .u64 (lo Q2))).setCell ⟨q, 1, none⟩ (.int .u64 (hi Q2))) :=
  ⟨below_store2 h.hb (Nat.le_of_lt h1), store2_far h.k0 (Nat.ne_of_lt h1), store2_far h.kr h2, store2_far h.kp h3, store2 h.kq, h.hr.far h4⟩
theorem PrW.row {w0 : World} {cs : Array Value} {r p : Int} {p1 p2 q g : Nat} {Q : Int} {X : List Int} {wr : World} (h : PrW w0 cs r p p1 p2 q g Q X wr) (h1 : w0.heap.size < g) (h2 : p1 ≠ g) (h3 : p2 ≠ g) (h4 : q ≠ g) {k : Nat} (hk : k < X.length) (z : Int) :
    PrW w0 cs r p p1 p2 q g Q (X.set k z) ((wr.setCell ⟨g, k * 2, none⟩ (.int .u64 (lo z))).setCell ⟨g, k * 2 + 1, none⟩ (.int .u64 (hi z))) :=
  ⟨below_store2' h.hb (Nat.le_of_lt h1), store2_farx h.k0 (Nat.ne_of_lt h1), store2_farx h.kr h2, store2_farx h.kp h3, store2_farx h.kq h4, h.hr.set hk z⟩
theorem rangeL_len (h : Nat → Int) {j D : Nat} (hj : j ≤ D) : (rangeL h j ++ List.replicate (D - j) 0).length = D := by rw [List.length_append, List.length_replicate]; simp [rangeL]; omega
set_option maxRecDepth 20000 in
set_option maxHeartbeats 4000000 in
theorem pairs_any (x : Ci) (h : x.Good) (xs : List Int) (A : Option Addr) (m cp : Nat) (r p : Int) (hl : xs.length = m) (hm : (m : Int) ≤ x.c) (hc : x.c ≤ 4096) (hx : ElemsOK xs) (hr0 : 0 ≤ r ∧ r < 340282366920938463463374607431768211456) (hp0 : 0 ≤ p ∧ p < 340282366920938463463374607431768211456) (w : World) (hA : ElemsAt w A xs) :
    Calls Tryz.prog 118 #[cvl x, .slice A m cp, .agg #[.int .u64 (lo r), .int .u64 (hi r)], .agg #[.int .u64 (lo p), .int .u64 (hi p)]] w (RowOut (prL x.f r p xs (2 * x.c.toNat)) (2 * x.c.toNat) w) := by
  have fb := fb_of h.f
  have hmul := fb.hmul
  have hsub := fb.hsub
  obtain ⟨T, hT⟩ : ∃ T, prF x.f r p xs = T := ⟨_, rfl⟩
  have hT0 : ∀ j, T (2 * j) = mul x.f (pwr x.f r j) (xs.getD j 0) := fun j => by rw [← hT, prF_even]
  have hT1 : ∀ j, T (2 * j + 1) = sub x.f (xs.getD j 0) p := fun j => by rw [← hT, prF_odd]
  have hTb : ∀ j, 0 ≤ T j ∧ T j < M x.f := fun j => by rw [← hT]; exact prF_bound _ _ _ _ _
  have hTL : prL x.f r p xs (2 * x.c.toNat) = rangeL T (2 * m) ++ List.replicate (2 * x.c.toNat - 2 * m) 0 := by unfold prL; rw [hT, hl]
  rw [hTL]
  clear hTL hT
  have hpw := pwr_ok (f := x.f) hr0
  obtain ⟨R, hR⟩ : ∃ R, pwr x.f r = R := ⟨_, rfl⟩
  have hR0 : R 0 = r := by rw [← hR]; rfl
  have hR1 : ∀ j, mul x.f (R j) r = R (j + 1) := fun j => by rw [← hR]; rfl
  rw [hR] at hT0 hpw
  clear hR
  obtain ⟨C, hC⟩ := Int.eq_ofNat_of_zero_le (show 0 ≤ x.c by omega)
  rw [hC] at hm hc
  rw [hC, Int.toNat_natCast]
  obtain ⟨k, f, b, l, W, c⟩ := x
  simp only at hC hmul hsub hT0 hT1 hTb hR1
  subst hC
  have hM := M_lt f
  unfold cvl
  obtain ⟨D, hD⟩ : ∃ D, 2 * C = D := ⟨_, rfl⟩
  have zD : IntKind.i64.wrap (2 * (C : Int)) = (D : Int) := wrap_i (by omega) (by omega)
  rw [hD]
  have hmk := make_elems D (by omega)
  have hmC : m ≤ C := by omega
  replace hD := Lib.hid hD
  replace hA := Lib.hid hA
  replace hl := Lib.hid hl
  replace hx := Lib.hid hx
  replace hmul := Lib.hid hmul
  replace hsub := Lib.hid hsub
  replace hT0 := Lib.hid hT0
  replace hT1 := Lib.hid hT1
  replace hTb := Lib.hid hTb
  replace hR0 := Lib.hid hR0
  replace hR1 := Lib.hid hR1
  replace hpw := Lib.hid hpw
  clear h fb
  go_enter Tryz.func118, Tryz.ntmps118
  go_upto_region 4 with (fail)
  refine name_wp (fun w3 => PrW w #[.int .u8 k, .int .u8 f, .int .i64 b, .int .i64 l, .int .i64 W, .int .i64 (C : Int)] r p (w.heap.size + 1) (w.heap.size + 1 + 1) (w.heap.size + 1 + 1 + 1 + 1) (w.heap.size + 1 + 1 + 1) (R 0) (rangeL T (2 * 0) ++ List.replicate (D - 2 * 0) 0) w3) ?_ ?_
  · have e0 : rangeL T (2 * 0) ++ List.replicate (D - 2 * 0) 0 = List.replicate D 0 := rfl
    rw [e0, hR0.out]
    refine ⟨((((((Below.refl _ _).alloc (Nat.le_refl _) _).alloc (by simp) _).alloc (by simp; omega) _).alloc (by simp; omega) _).alloc (by simp; omega) _), ?_, ?_, ?_, ?_, ?_⟩
    · exact alloc_keeps (alloc_keeps (alloc_keeps (alloc_keeps (alloc_at rfl))))
    · exact alloc_keeps (alloc_keeps (alloc_keeps (alloc_at (by simp))))
    · exact alloc_keeps (alloc_keeps (alloc_at (by simp)))
    · exact alloc_at (by simp)
    · exact alloc_keeps (alloc_at (by simp))
  intro w3 H
  generalize hq5 : w.heap.size + 1 + 1 + 1 + 1 = q at *
  generalize hg5 : w.heap.size + 1 + 1 + 1 = g at *
  generalize hp5 : w.heap.size + 1 + 1 = p2 at *
  generalize hr5 : w.heap.size + 1 = p1 at *
  have hh := Lib.hid (And.intro hr5 (And.intro hp5 (And.intro hg5 hq5)))
  clear hr5 hp5 hg5 hq5 hR0
  go_wp2
  go_loopw [23] (fun i wr => ∃ j : Nat, j ≤ m ∧ i = .int .i64 (j : Int) ∧ PrW w #[.int .u8 k, .int .u8 f, .int .i64 b, .int .i64 l, .int .i64 W, .int .i64 (C : Int)] r p p1 p2 q g (R j) (rangeL T (2 * j) ++ List.replicate (D - 2 * j) 0) wr) (fun i _ => m - (intOf i).toNat)
  case atStart => exact ⟨0, Nat.zero_le _, rfl, H⟩
  case round =>
    clear H
    obtain ⟨j, hj, rfl, H⟩ := hrel
    by_cases hlt : j < m
    · have j1 : (j : Int) < (m : Int) := by omega
      have j0 : (0 : Int) ≤ (j : Int) := by omega
      obtain ⟨pb, po, rfl, hc0, hc1⟩ := (hA.out.up H.hb) j (by rw [hl.out]; exact hlt)
      have hz := hx.out.at_ (k := j) (by rw [hl.out]; exact hlt)
      have hT0j := hT0.out j
      have hT1j := hT1.out j
      generalize xs.getD j 0 = z at *
      have hRj := hpw.out j
      have hm1 := Lib.hid ((hmul.out (R j) z hRj.1 hRj.2 hz.1 hz.2).2)
      have hm2 := Lib.hid ((hsub.out z p hz.1 hz.2 hp0.1 hp0.2).2)
      have hm3 := Lib.hid ((hmul.out (R j) r hRj.1 hRj.2 hr0.1 hr0.2).2)
      rw [← hT0j] at hm1
      rw [← hT1j] at hm2
      rw [hR1.out] at hm3
      clear hT0j hT1j hRj hz
      have hDo := hD.out
      obtain ⟨e, he⟩ : ∃ e, 2 * j = e := ⟨_, rfl⟩
      obtain ⟨e', he'⟩ : ∃ e', e + 1 = e' := ⟨_, rfl⟩
      have z1 : IntKind.i64.wrap (2 * (j : Int)) = (e : Int) := wrap_i (by omega) (by omega)
      have z2 : IntKind.i64.wrap ((e : Int) + 1) = (e' : Int) := wrap_i (by omega) (by omega)
      have i0 : (0 : Int) ≤ (e : Int) := by omega
      have i1 : (e : Int) < (D : Int) := by omega
      have i2 : (0 : Int) ≤ (e' : Int) := by omega
      have i3 : (e' : Int) < (D : Int) := by omega
      have l0 := rangeL_len T (show e ≤ D by omega)
      have l1 := rangeL_len T (show e' ≤ D by omega)
      have s0 := rangeL_set T (show e < D by omega)
      have s1 := rangeL_set T (show e' < D by omega)
      rw [he'] at s0
      rw [show e' + 1 = 2 * (j + 1) by omega] at s1
      rw [he] at hm1 H
      rw [he, he'] at hm2
      have le0 : e < (rangeL T e ++ List.replicate (D - e) 0).length := by rw [l0]; omega
      have le1 : e' < (rangeL T e' ++ List.replicate (D - e') 0).length := by rw [l1]; omega
      replace le0 := Lib.hid le0
      replace le1 := Lib.hid le1
      clear hDo
      clear l0 l1 he he'
      replace s0 := Lib.hid s0
      replace s1 := Lib.hid s1
      go_upto_region 7 with (fail)
      refine name_wp (fun w4 => PrW w #[.int .u8 k, .int .u8 f, .int .i64 b, .int .i64 l, .int .i64 W, .int .i64 (C : Int)] r p p1 p2 q g (R j) (rangeL T e ++ List.replicate (D - e) 0) w4 ∧ w4.heap[wr.heap.size]? = some (.cells #[.int .u64 (lo z), .int .u64 (hi z)] 28 (0, 0))) ⟨H.up ((Below.refl _ _).alloc (Nat.le_refl _) _), alloc_at rfl⟩ ?_
      rintro w4 ⟨H', kx⟩
      have hxg := Lib.hid (lt_of_get H.hr)
      have hxq := Lib.hid (lt_of_get H.kq)
      clear H hc0 hc1
      have H := H'
      clear H'
      generalize wr.heap.size = px at *
      obtain ⟨r0, r1, -, -⟩ := blk2 H.kr
      obtain ⟨p0, p1', -, -⟩ := blk2 H.kp
      obtain ⟨q0, q1, q2, q3⟩ := blk2 H.kq
      obtain ⟨x0, x1, -, -⟩ := blk2 kx
      go_wp2_with fail
      refine call_then (hm1.out _) ?_
      intro w5 hv
      replace H := H.up hv
      replace kx := keeps hv kx
      clear hv
      clear r0 r1 p0 p1' q0 q1 q2 q3 x0 x1
      have t0 := H.hr.lo le0.out
      have t1 := H.hr.hi le0.out
      have f0 := H.hr.free (e * 2)
      have f1 := H.hr.free (e * 2 + 1)
      go_upto_region 8 with (fail)
      refine name_wp (fun w6 => PrW w #[.int .u8 k, .int .u8 f, .int .i64 b, .int .i64 l, .int .i64 W, .int .i64 (C : Int)] r p p1 p2 q g (R j) (rangeL T e' ++ List.replicate (D - e') 0) w6 ∧ w6.heap[px]? = some (.cells #[.int .u64 (lo z), .int .u64 (hi z)] 28 (0, 0))) ⟨?_, store2_farx kx (Nat.ne_of_gt hxg.out)⟩ ?_
      · rw [← s0.out]
        have := hh.out
        exact H.row (by omega) (by omega) (by omega) (by omega) le0.out _
      clear H kx t0 t1 f0 f1
      rintro w6 ⟨H, kx⟩
      obtain ⟨r0, r1, -, -⟩ := blk2 H.kr
      obtain ⟨p0, p1', -, -⟩ := blk2 H.kp
      obtain ⟨q0, q1, q2, q3⟩ := blk2 H.kq
      obtain ⟨x0, x1, -, -⟩ := blk2 kx
      go_wp2_with fail
      refine call_then (hm2.out _) ?_
      intro w7 hv
      replace H := H.up hv
      replace kx := keeps hv kx
      clear hv
      clear r0 r1 p0 p1' q0 q1 q2 q3 x0 x1
      have t0 := H.hr.lo le1.out
      have t1 := H.hr.hi le1.out
      have f0 := H.hr.free (e' * 2)
      have f1 := H.hr.free (e' * 2 + 1)
      go_upto_region 9 with (fail)
      refine name_wp (fun w8 => PrW w #[.int .u8 k, .int .u8 f, .int .i64 b, .int .i64 l, .int .i64 W, .int .i64 (C : Int)] r p p1 p2 q g (R j) (rangeL T (2 * (j + 1)) ++ List.replicate (D - 2 * (j + 1)) 0) w8 ∧ w8.heap[px]? = some (.cells #[.int .u64 (lo z), .int .u64 (hi z)] 28 (0, 0))) ⟨?_, store2_farx kx (Nat.ne_of_gt hxg.out)⟩ ?_
      · rw [← s1.out]
        have := hh.out
        exact H.row (by omega) (by omega) (by omega) (by omega) le1.out _
      clear H kx t0 t1 f0 f1
      rintro w8 ⟨H, kx⟩
      obtain ⟨r0, r1, -, -⟩ := blk2 H.kr
      obtain ⟨p0, p1', -, -⟩ := blk2 H.kp
      obtain ⟨q0, q1, q2, q3⟩ := blk2 H.kq
      obtain ⟨x0, x1, -, -⟩ := blk2 kx
      go_wp2_with fail
      refine call_then (hm3.out _) ?_
      intro w9 hv
      replace H := H.up hv
      replace kx := keeps hv kx
      clear hv
      clear r0 r1 p0 p1' q0 q1 q2 q3 x0 x1
      obtain ⟨q0, q1, q2, q3⟩ := blk2 H.kq
      have H9 := H.pow (by have := hh.out; omega) (by have := hh.out; omega) (by have := hh.out; omega) (by have := hh.out; omega) (R (j + 1))
      replace H9 := Lib.hid H9
      clear H kx
      go_wp2
      exact ⟨⟨j + 1, by omega, by go_num, H9.out⟩, by simp [intOf]; omega⟩
    · obtain rfl : m = j := by omega
      have j1 : ¬ (m : Int) < (m : Int) := by omega
      go_wp2
      go_ret
      exact ⟨g, rfl, H.hb, by have := hh.out; omega, H.hr⟩
end Go.Proofs.YtebgfelbffgnbaaGreatDoor

/-
  What is said of how many are 1.
-/
namespace Go.Proofs.YtebgfelbffgnbaaGreatDoor
open Go.RowKit Flow F
set_option linter.unusedVariables false
set_option linter.unusedSimpArgs false
attribute [local go_sem] eql_elem

/-- What is said of how many are 1. -/
def weightF (x : Ci) (xs : List Int) (j p : Int) : Int :=
  if x.k = 4 then mul x.f j (sub x.f (sumF x.f xs) p)
  else if x.k = 5 then mul x.f j (add x.f (sub x.f (sumF x.f (xs.take x.l.toNat)) (numF x.f (xs.drop x.l.toNat))) (mul x.f (offN x.w.toNat : Int) p))
  else 0
theorem weightF_bound (x : Ci) (xs : List Int) (j p : Int) : 0 ≤ weightF x xs j p ∧ weightF x xs j p < M x.f := by
  unfold weightF
  split
  · exact mul_bound _ _ _
  · split
    · exact mul_bound _ _ _
    · have := M_pos x.f; omega
/-- An element is answered. -/
def ElOut (z : Int) (w : World) (e : Ending) (w' : World) : Prop := e = .returned (.agg #[.int .u64 (lo z), .int .u64 (hi z)]) ∧ Below w.heap.size w w'
set_option maxRecDepth 20000 in
set_option maxHeartbeats 4000000 in
theorem weight_rest (x : Ci) (h4 : x.k ≠ 4) (h5 : x.k ≠ 5) (xs : List Int) (A B : Option Addr) (m cp n cq : Nat) (p : Int) (w : World) :
    Calls Tryz.prog 83 #[cvl x, .slice A m cp, .slice B n cq, .agg #[.int .u64 (lo p), .int .u64 (hi p)]] w (ElOut 0 w) := by
  obtain ⟨k, f, b, l, W, c⟩ := x
  simp only at h4 h5
  have e4 : (k == 4) = false := by simp; omega
  have e5 : (k == 5) = false := by simp; omega
  unfold cvl ElOut
  go_enter Tryz.func83, Tryz.ntmps83
  go_upto_region 1 with (fail)
  refine name_wp (fun w1 => Below w.heap.size w w1 ∧ w1.heap[w.heap.size]? = some (.cells #[.int .u8 (k), .int .u8 f, .int .i64 b, .int .i64 (l), .int .i64 (W), .int .i64 c] 33 (0, 0)) ∧ Holds w1 (w.heap.size + 1) p ∧ Holds w1 (w.heap.size + 1 + 1) 0)
    ⟨(((Below.refl _ _).alloc (Nat.le_refl _) _).alloc (by simp) _).alloc (by simp; omega) _, alloc_keeps (alloc_keeps (alloc_at rfl)), alloc_keeps (alloc_at (by simp)), alloc_at (by simp)⟩ ?_
  rintro w1 ⟨hb, k0, kp, ko⟩
  generalize ho5 : w.heap.size + 1 + 1 = o1 at *
  generalize hp5 : w.heap.size + 1 = p1 at *
  obtain ⟨c0, c1, c2, c3, c4, c5⟩ := blk6 k0
  obtain ⟨t0, t1, t2, t3⟩ := blk2 ko
  go_wp2
  obtain ⟨p2, q2, _, _⟩ := blk2 (ko.set 0)
  rw [show lo 0 = 0 from rfl, show hi 0 = 0 from rfl] at p2 q2 ⊢
  exact bodyPost_ret (v := .agg #[.int .u64 0, .int .u64 0]) (by simp [results, Tryz.results83, go_sem, p2, q2]) rfl ⟨rfl, below_store2 hb (by omega)⟩
set_option maxRecDepth 20000 in
set_option maxHeartbeats 4000000 in
theorem weight_hist (x : Ci) (h : x.Good) (h4 : x.k = 4) (xs js : List Int) (A B : Option Addr) (m cp n cq : Nat) (p : Int) (hl : xs.length = m) (hm : m ≤ maxLen) (hx : ElemsOK xs) (hjl : js.length = n) (hn : 1 ≤ n) (hnm : n ≤ maxLen) (hj : ElemsOK js) (hp : 0 ≤ p ∧ p < 340282366920938463463374607431768211456) (w : World) (hA : ElemsAt w A xs) (hB : ElemsAt w B js) :
    Calls Tryz.prog 83 #[cvl x, .slice A m cp, .slice B n cq, .agg #[.int .u64 (lo p), .int .u64 (hi p)]] w (ElOut (weightF x xs (js.getD (n - 1) 0) p) w) := by
  have fb := fb_of h.f
  have hsub := fb.hsub
  have hmul := fb.hmul
  have hsm := fun w hA => fsum_gen x.f (add x.f) xs A cp hx (by omega) fb.hadd w hA
  have hS : 0 ≤ sumF x.f xs ∧ sumF x.f xs < M x.f := sumF_bound _ _
  have hW : weightF x xs (js.getD (n - 1) 0) p = mul x.f (js.getD (n - 1) 0) (sub x.f (sumF x.f xs) p) := by unfold weightF; rw [if_pos h4]
  rw [hW]
  clear hW
  have hS' : List.foldl (add x.f) 0 xs = sumF x.f xs := rfl
  rw [hS', hl] at hsm
  clear hS'
  obtain ⟨t, rfl⟩ : ∃ t, n = t + 1 := ⟨n - 1, by omega⟩
  simp only [Nat.add_sub_cancel]
  obtain ⟨k, f, b, l, W, c⟩ := x
  simp only at h4 hsub hmul hsm hS
  subst h4
  generalize sumF f xs = S at *
  have hM := M_lt f
  have hz := hj.at_ (k := t) (by omega)
  obtain ⟨pb, po, rfl, hc0, hc1⟩ := hB t (by omega)
  generalize js.getD t 0 = z at *
  have hD := sub_bound f S p
  have h1 := (hsub S p hS.1 (by omega) hp.1 hp.2).2
  have h2 := (hmul z (sub f S p) hz.1 hz.2 hD.1 (by omega)).2
  generalize sub f S p = D at *
  generalize mul f z D = Z at *
  have t0 : (0 : Int) ≤ (t : Int) := by omega
  have t1 : (t : Int) < ((t + 1 : Nat) : Int) := by omega
  have zt : IntKind.i64.wrap (((t + 1 : Nat) : Int) - 1) = (t : Int) := wrap_i (by omega) (by unfold maxLen at hnm; omega)
  generalize t + 1 = n at *
  replace hsm := Lib.hid hsm
  replace h1 := Lib.hid h1
  replace h2 := Lib.hid h2
  replace hA := Lib.hid hA
  clear h fb hsub hmul hx hj hB hl hjl hS hz hD hp
  unfold cvl ElOut
  go_enter Tryz.func83, Tryz.ntmps83
  go_upto_region 1 with (fail)
  refine name_wp (fun w1 => Below w.heap.size w w1 ∧ w1.heap[w.heap.size]? = some (.cells #[.int .u8 (4), .int .u8 f, .int .i64 b, .int .i64 (l), .int .i64 (W), .int .i64 c] 33 (0, 0)) ∧ Holds w1 (w.heap.size + 1) p ∧ Holds w1 (w.heap.size + 1 + 1) 0)
    ⟨(((Below.refl _ _).alloc (Nat.le_refl _) _).alloc (by simp) _).alloc (by simp; omega) _, alloc_keeps (alloc_keeps (alloc_at rfl)), alloc_keeps (alloc_at (by simp)), alloc_at (by simp)⟩ ?_
  rintro w1 ⟨hb, k0, kp, ko⟩
  generalize ho5 : w.heap.size + 1 + 1 = o1 at *
  generalize hp5 : w.heap.size + 1 = p1 at *
  obtain ⟨c0, c1, c2, c3, c4, c5⟩ := blk6 k0
  have a0 := (hb.cell (World.block_lt_of_cell? _ _ hc0)).trans hc0
  have a1 := (hb.cell (World.block_lt_of_cell? _ _ hc1)).trans hc1
  clear hc0 hc1
  go_upto_region 4 with (fail)
  clear c0 c1 c2 c3 c4 c5
  refine wp_region_flow1 14 (by kernel_rfl) (by kernel_rfl) (by kernel_rfl) ?_
  apply Exists.intro
  refine ⟨fun ι _ φ hφ => ?_, fun wt hwt => ?_⟩
  · obtain ⟨e0, e1⟩ := hφ.two kp
    have b0 := fun i => hφ.cell a0 i
    have b1 := fun i => hφ.cell a1 i
    have hs2 := Lib.hid (fun i => hsm.out (φ i) (hA.out.up (below_next hb hb.size (hφ.old i))))
    simp only [List.take_succ_cons, List.take_zero]
    repeat (go_big_quiet_step ((first
      | (go_at_call 65; exact flow_call hφ (hs2.out _))
      | (go_at_call 90; exact flow_call hφ (h1.out _))
      | (go_at_call 87; exact flow_call hφ (h2.out _)))))
    exact wpQuiet_nil rfl
  replace hb := below_next hb hb.size hwt
  replace ko := ko.up hwt
  clear hwt kp k0 a0 a1
  simp only [List.drop_succ_cons, List.drop_zero]
  obtain ⟨t0, t1, t2, t3⟩ := blk2 ko
  go_wp2
  obtain ⟨p2, q2, _, _⟩ := blk2 (ko.set Z)
  exact bodyPost_ret (v := .agg #[.int .u64 (lo Z), .int .u64 (hi Z)]) (by simp [results, Tryz.results83, go_sem, p2, q2]) rfl ⟨rfl, below_store2 hb (by omega)⟩
set_option maxRecDepth 20000 in
set_option maxHeartbeats 4000000 in
theorem weight_multi (x : Ci) (h : x.Good) (h5 : x.k = 5) (xs js : List Int) (A B : Option Addr) (m cp n cq : Nat) (p : Int) (hl : xs.length = m) (hN : m = x.inN) (hcp : m ≤ cp) (hx : ElemsOK xs) (hjl : js.length = n) (hn : 1 ≤ n) (hnm : n ≤ maxLen) (hj : ElemsOK js) (hp : 0 ≤ p ∧ p < 340282366920938463463374607431768211456) (w : World) (hA : ElemsAt w A xs) (hB : ElemsAt w B js) :
    Calls Tryz.prog 83 #[cvl x, .slice A m cp, .slice B n cq, .agg #[.int .u64 (lo p), .int .u64 (hi p)]] w (ElOut (weightF x xs (js.getD (n - 1) 0) p) w) := by
  have fb := fb_of h.f
  have hsub := fb.hsub
  have hadd := fb.hadd
  have hmul := fb.hmul
  have hL := h.fits.l (by omega)
  have hW5 := h.fits.w h5
  obtain ⟨nW, hnW⟩ := Int.eq_ofNat_of_zero_le (show 0 ≤ x.w by omega)
  obtain ⟨nl, hnl⟩ := Int.eq_ofNat_of_zero_le (show 0 ≤ x.l by omega)
  have hNe : m = nl + Lib.bitLen nW := by rw [hN]; unfold Ci.inN; rw [if_neg (by omega), if_neg (by omega), if_neg (by omega), if_neg (by omega), hnW, hnl]; simp
  have hbl := bl_le (W := nW) (by omega)
  have hole := offN_le (W := nW) (by omega)
  have hb1 := (bl_small ⟨nW, by omega⟩).2.2 (by simp only; omega)
  simp only at hb1
  have hsm := fun C w hA => fsum_gen x.f (add x.f) (xs.take nl) A C (fun y hy => hx y (List.mem_of_mem_take hy)) (by rw [List.length_take]; unfold maxLen; omega) fb.hadd w hA
  have hnum := fun C w hA => number_any x h (xs.drop nl) C (m - nl) (cp - nl) (by rw [List.length_drop]; omega) (by omega) (by omega) (fun y hy => hx y (List.mem_of_mem_drop hy)) w hA
  have hofs := fun w => fb.hof (offN nW : Int) (by omega) (by omega) w
  have hof := fun w => offset_any x.k x.f x.b x.l x.c nW (by omega) w
  have hS : 0 ≤ sumF x.f (xs.take nl) ∧ sumF x.f (xs.take nl) < M x.f := sumF_bound _ _
  have hV : 0 ≤ numF x.f (xs.drop nl) ∧ numF x.f (xs.drop nl) < M x.f := numF_bound _ _
  have hW : weightF x xs (js.getD (n - 1) 0) p = mul x.f (js.getD (n - 1) 0) (add x.f (sub x.f (sumF x.f (xs.take nl)) (numF x.f (xs.drop nl))) (mul x.f (offN nW : Int) p)) := by
    unfold weightF
    rw [if_neg (by omega), if_pos h5, hnW, hnl, Int.toNat_natCast, Int.toNat_natCast]
  rw [hW]
  clear hW
  have hS' : List.foldl (add x.f) 0 (xs.take nl) = sumF x.f (xs.take nl) := rfl
  have hll : (xs.take nl).length = nl := by rw [List.length_take]; omega
  rw [hS', hll] at hsm
  clear hS' hll
  obtain ⟨t, rfl⟩ : ∃ t, n = t + 1 := ⟨n - 1, by omega⟩
  simp only [Nat.add_sub_cancel]
  obtain ⟨k, f, b, l, W, c⟩ := x
  simp only at h5 hsub hmul hadd hsm hS hV hnum hofs hof hnW hnl hL
  subst h5 hnW hnl
  generalize sumF f (xs.take nl) = S at *
  generalize numF f (xs.drop nl) = V at *
  have hM := M_lt f
  have hz := hj.at_ (k := t) (by omega)
  obtain ⟨pb, po, rfl, hc0, hc1⟩ := hB t (by omega)
  obtain ⟨pa, qo, rfl, -, -⟩ := hA 0 (by omega)
  generalize js.getD t 0 = z at *
  have hsm1 := Lib.hid (fun w1 hb => hsm cp w1 (((hA.up hb)).take nl))
  have hnum1 := Lib.hid (fun w1 hb => hnum (some ⟨pa, qo + nl * 2, none⟩) w1 ((hA.up hb).drop nl))
  have hD := sub_bound f S V
  have h1 := (hsub S V hS.1 (by omega) hV.1 (by omega)).2
  have hE := mul_bound f (offN nW : Int) p
  have h2 := (hmul (offN nW : Int) p (by omega) (by omega) hp.1 hp.2).2
  generalize sub f S V = D at *
  generalize mul f (offN nW : Int) p = E at *
  have hG := add_bound f D E
  have h3 := (hadd D E hD.1 (by omega) hE.1 (by omega)).2
  generalize add f D E = G at *
  have h4 := (hmul z G hz.1 hz.2 hG.1 (by omega)).2
  generalize mul f z G = Z at *
  generalize offN nW = O at *
  have t0 : (0 : Int) ≤ (t : Int) := by omega
  have t1 : (t : Int) < ((t + 1 : Nat) : Int) := by omega
  have zt : IntKind.i64.wrap (((t + 1 : Nat) : Int) - 1) = (t : Int) := wrap_i (by omega) (by unfold maxLen at hnm; omega)
  generalize t + 1 = n at *
  have hL0 : (0 : Int) ≤ (nl : Int) := by omega
  have hL1 : (nl : Int) ≤ (m : Int) := by omega
  have hL2 : (nl : Int) ≤ (cp : Int) := by omega
  have hcL : ¬ cp = nl := by omega
  have hLc : ¬ nl = cp := by omega
  replace hofs := Lib.hid hofs
  replace hof := Lib.hid hof
  replace h1 := Lib.hid h1
  replace h2 := Lib.hid h2
  replace h3 := Lib.hid h3
  replace h4 := Lib.hid h4
  clear h fb hsub hmul hadd hsm hnum hx hj hB hA hl hjl hS hV hz hD hE hG hp hNe hbl hole hb1 hN hL hW5
  unfold cvl ElOut
  go_enter Tryz.func83, Tryz.ntmps83
  go_upto_region 1 with (fail)
  refine name_wp (fun w1 => Below w.heap.size w w1 ∧ w1.heap[w.heap.size]? = some (.cells #[.int .u8 (5), .int .u8 f, .int .i64 b, .int .i64 ((nl : Int)), .int .i64 ((nW : Int)), .int .i64 c] 33 (0, 0)) ∧ Holds w1 (w.heap.size + 1) p ∧ Holds w1 (w.heap.size + 1 + 1) 0)
    ⟨(((Below.refl _ _).alloc (Nat.le_refl _) _).alloc (by simp) _).alloc (by simp; omega) _, alloc_keeps (alloc_keeps (alloc_at rfl)), alloc_keeps (alloc_at (by simp)), alloc_at (by simp)⟩ ?_
  rintro w1 ⟨hb, k0, kp, ko⟩
  generalize ho5 : w.heap.size + 1 + 1 = o1 at *
  generalize hp5 : w.heap.size + 1 = p1 at *
  obtain ⟨c0, c1, c2, c3, c4, c5⟩ := blk6 k0
  have a0 := (hb.cell (World.block_lt_of_cell? _ _ hc0)).trans hc0
  have a1 := (hb.cell (World.block_lt_of_cell? _ _ hc1)).trans hc1
  clear hc0 hc1
  go_wp2_with fail
  refine call_then (hsm1.out _ hb) ?_
  intro w2 hv
  have a0' := (hv.cell (World.block_lt_of_cell? _ _ a0)).trans a0
  have a1' := (hv.cell (World.block_lt_of_cell? _ _ a1)).trans a1
  clear a0 a1
  have a0 := a0'
  have a1 := a1'
  clear a0' a1'
  replace hb := below_next hb hb.size hv
  replace k0 := keeps hv k0
  replace kp := kp.up hv
  replace ko := ko.up hv
  clear c0 c1 c2 c3 c4 c5
  go_upto_region 7 with (fail)
  refine name_wp (fun w3 => Below w.heap.size w w3 ∧ w3.heap[w.heap.size]? = some (.cells #[.int .u8 5, .int .u8 f, .int .i64 b, .int .i64 (nl : Int), .int .i64 (nW : Int), .int .i64 c] 33 (0, 0)) ∧ Holds w3 p1 p ∧ Holds w3 o1 0 ∧ Holds w3 w2.heap.size S ∧ w3.cell? ⟨pb, po + t * 2, none⟩ = some (.int .u64 (lo z)) ∧ w3.cell? ⟨pb, po + t * 2 + 1, none⟩ = some (.int .u64 (hi z)))
    ⟨hb.alloc hb.size _, alloc_keeps k0, alloc_keeps kp, alloc_keeps ko, alloc_at rfl, (((Below.refl _ _).alloc (Nat.le_refl _) _).cell (World.block_lt_of_cell? _ _ a0)).trans a0, (((Below.refl _ _).alloc (Nat.le_refl _) _).cell (World.block_lt_of_cell? _ _ a1)).trans a1⟩ ?_
  clear hb k0 kp ko a0 a1
  generalize w2.heap.size = q1 at *
  rintro w3 ⟨hb, k0, kp, ko, k1, a0, a1⟩
  refine wp_region_flow2 6 _ (.cells #[.int .u64 0, .int .u64 0] 28 (0, 0)) (by kernel_rfl) (by kernel_rfl) (by kernel_rfl) rfl rfl (fun _ _ => by simp [go_sem]) ?_
  apply Exists.intro
  refine ⟨fun ι _ φ hφ => ?_, fun w4 bb hv hbb kb => ?_⟩
  · have q := fun i => blk6 (keeps (hφ.old i) k0)
    have q0 := fun i => (q i).1
    have q1 := fun i => (q i).2.1
    have q2 := fun i => (q i).2.2.1
    have q3 := fun i => (q i).2.2.2.1
    have q4 := fun i => (q i).2.2.2.2.1
    have q5 := fun i => (q i).2.2.2.2.2
    clear q
    simp only [List.take_succ_cons, List.take_zero]
    have hn2 := Lib.hid (fun i => hnum1.out (φ i) (below_next hb hb.size (hφ.old i)))
    repeat (go_big_quiet_step ((go_at_call 96; exact flow_call hφ (hn2.out _))))
    exact wpQuiet_nil rfl
  have hne := Lib.hid (And.intro (lt_of_get k0) (And.intro (lt_of_get kp) (And.intro (lt_of_get ko) (And.intro (lt_of_get k1) (World.block_lt_of_cell? _ _ a0)))))
  have a0' := (hv.cell (World.block_lt_of_cell? _ _ a0)).trans a0
  have a1' := (hv.cell (World.block_lt_of_cell? _ _ a1)).trans a1
  clear a0 a1
  have a0 := a0'
  have a1 := a1'
  clear a0' a1'
  replace hb := below_next hb hb.size hv
  replace k0 := keeps hv k0
  replace kp := kp.up hv
  replace ko := ko.up hv
  replace k1 := k1.up hv
  clear hv
  simp only [List.drop_succ_cons, List.drop_zero, Act.put]
  obtain ⟨e0, e1, e2, e3⟩ := blk2 kb
  go_upto_region 8 with (fail)
  have hn1 : w.heap.size ≠ bb := by have := hne.out; omega
  have hn2 : p1 ≠ bb := by have := hne.out; omega
  have hn3 : o1 ≠ bb := by have := hne.out; omega
  have hn4 : q1 ≠ bb := by have := hne.out; omega
  have hn6 : bb ≠ pb := by have := hne.out; simp only at this; omega
  have hn0 : w.heap.size ≤ bb := by have := hne.out; omega
  refine name_wp (fun w5 => Below w.heap.size w w5 ∧ w5.heap[w.heap.size]? = some (.cells #[.int .u8 5, .int .u8 f, .int .i64 b, .int .i64 (nl : Int), .int .i64 (nW : Int), .int .i64 c] 33 (0, 0)) ∧ Holds w5 p1 p ∧ Holds w5 o1 0 ∧ Holds w5 q1 S ∧ Holds w5 bb V ∧ w5.cell? ⟨pb, po + t * 2, none⟩ = some (.int .u64 (lo z)) ∧ w5.cell? ⟨pb, po + t * 2 + 1, none⟩ = some (.int .u64 (hi z)))
    ⟨below_store2 hb hn0, store2_far k0 hn1, kp.far' hn2, ko.far' hn3, k1.far' hn4, store2 kb, ?_, ?_⟩ ?_
  · rw [World.cell?_setCell_far _ _ _ _ hn6, World.cell?_setCell_far _ _ _ _ hn6]; exact a0
  · rw [World.cell?_setCell_far _ _ _ _ hn6, World.cell?_setCell_far _ _ _ _ hn6]; exact a1
  clear hb k0 kp ko k1 a0 a1 kb e0 e1 e2 e3 hn1 hn2 hn3 hn4 hn6 hn0 hbb
  rintro w5 ⟨hb, k0, kp, ko, k1, k2, a0, a1⟩
  refine wp_region_flow2 7 _ (.cells #[.int .u64 0, .int .u64 0] 28 (0, 0)) (by kernel_rfl) (by kernel_rfl) (by kernel_rfl) rfl rfl (fun _ _ => by simp [go_sem]) ?_
  apply Exists.intro
  refine ⟨fun ι _ φ hφ => ?_, fun w6 b2 hv hbb kb => ?_⟩
  · have q := fun i => blk6 (keeps (hφ.old i) k0)
    have q0 := fun i => (q i).1
    have q1 := fun i => (q i).2.1
    have q2 := fun i => (q i).2.2.1
    have q3 := fun i => (q i).2.2.2.1
    have q4 := fun i => (q i).2.2.2.2.1
    have q5 := fun i => (q i).2.2.2.2.2
    clear q
    simp only [List.take_succ_cons, List.take_zero]
    obtain ⟨e0, e1⟩ := hφ.two kp
    repeat (go_big_quiet_step ((first
      | (go_at_call 56; exact flow_call hφ (hof.out _))
      | (go_at_call 54; exact flow_call hφ (hofs.out _))
      | (go_at_call 87; exact flow_call hφ (h2.out _)))))
    exact wpQuiet_nil rfl
  have hne2 := Lib.hid (And.intro (lt_of_get k0) (And.intro (lt_of_get kp) (And.intro (lt_of_get ko) (And.intro (lt_of_get k1) (And.intro (lt_of_get k2) (World.block_lt_of_cell? _ _ a0))))))
  have a0' := (hv.cell (World.block_lt_of_cell? _ _ a0)).trans a0
  have a1' := (hv.cell (World.block_lt_of_cell? _ _ a1)).trans a1
  clear a0 a1
  have a0 := a0'
  have a1 := a1'
  clear a0' a1'
  replace hb := below_next hb hb.size hv
  replace k0 := keeps hv k0
  replace kp := kp.up hv
  replace ko := ko.up hv
  replace k1 := k1.up hv
  replace k2 := k2.up hv
  clear hv
  simp only [List.drop_succ_cons, List.drop_zero, Act.put]
  obtain ⟨e0, e1, e2, e3⟩ := blk2 kb
  go_upto_region 9 with (fail)
  have hn1 : w.heap.size ≠ b2 := by have := hne2.out; omega
  have hn2 : p1 ≠ b2 := by have := hne2.out; omega
  have hn3 : o1 ≠ b2 := by have := hne2.out; omega
  have hn4 : q1 ≠ b2 := by have := hne2.out; omega
  have hn5 : bb ≠ b2 := by have := hne2.out; omega
  have hn6 : b2 ≠ pb := by have := hne2.out; simp only at this; omega
  have hn0 : w.heap.size ≤ b2 := by have := hne2.out; omega
  refine name_wp (fun w7 => Below w.heap.size w w7 ∧ w7.heap[w.heap.size]? = some (.cells #[.int .u8 5, .int .u8 f, .int .i64 b, .int .i64 (nl : Int), .int .i64 (nW : Int), .int .i64 c] 33 (0, 0)) ∧ Holds w7 o1 0 ∧ Holds w7 q1 S ∧ Holds w7 bb V ∧ Holds w7 b2 E ∧ w7.cell? ⟨pb, po + t * 2, none⟩ = some (.int .u64 (lo z)) ∧ w7.cell? ⟨pb, po + t * 2 + 1, none⟩ = some (.int .u64 (hi z)))
    ⟨below_store2 hb hn0, store2_far k0 hn1, ko.far' hn3, k1.far' hn4, k2.far' hn5, store2 kb, ?_, ?_⟩ ?_
  · rw [World.cell?_setCell_far _ _ _ _ hn6, World.cell?_setCell_far _ _ _ _ hn6]; exact a0
  · rw [World.cell?_setCell_far _ _ _ _ hn6, World.cell?_setCell_far _ _ _ _ hn6]; exact a1
  clear hb k0 kp ko k1 k2 a0 a1 kb e0 e1 e2 e3 hn1 hn2 hn3 hn4 hn5 hn6 hn0 hbb hne hne2
  rintro w7 ⟨hb, k0, ko, k1, k2, k3, a0, a1⟩
  refine wp_region_flow1 15 (by kernel_rfl) (by kernel_rfl) (by kernel_rfl) ?_
  apply Exists.intro
  refine ⟨fun ι _ φ hφ => ?_, fun wt hwt => ?_⟩
  · obtain ⟨e0, e1⟩ := hφ.two k1
    obtain ⟨e2, e3⟩ := hφ.two k2
    obtain ⟨e4, e5⟩ := hφ.two k3
    have b0 := fun i => hφ.cell a0 i
    have b1 := fun i => hφ.cell a1 i
    simp only [List.take_succ_cons, List.take_zero]
    repeat (go_big_quiet_step ((first
      | (go_at_call 90; exact flow_call hφ (h1.out _))
      | (go_at_call 82; exact flow_call hφ (h3.out _))
      | (go_at_call 87; exact flow_call hφ (h4.out _)))))
    exact wpQuiet_nil rfl
  replace hb := below_next hb hb.size hwt
  replace ko := ko.up hwt
  clear hwt k0 k1 k2 k3 a0 a1
  simp only [List.drop_succ_cons, List.drop_zero]
  obtain ⟨t0, t1, t2, t3⟩ := blk2 ko
  go_wp2
  obtain ⟨p2, q2, _, _⟩ := blk2 (ko.set Z)
  exact bodyPost_ret (v := .agg #[.int .u64 (lo Z), .int .u64 (hi Z)]) (by simp [results, Tryz.results83, go_sem, p2, q2]) rfl ⟨rfl, below_store2 hb (by omega)⟩
end Go.Proofs.YtebgfelbffgnbaaGreatDoor

/-
  How the gadget is asked: any function that keeps what isn't its own.
-/
namespace Go.Proofs.YtebgfelbffgnbaaGreatDoor
open Go.RowKit Flow F
set_option linter.unusedVariables false
set_option linter.unusedSimpArgs false
attribute [local go_sem] eql_elem

/-- What may move: what is somebody's own, alone. -/
structure Moved (own own' : Nat → Prop) (w w' : World) : Prop where
  os : w'.os = w.os
  tape : w'.tape = w.tape
  output : w'.output = w.output
  size : w.heap.size ≤ w'.heap.size
  keep : ∀ k, k < w.heap.size → ¬ own k → w'.heap[k]? = w.heap[k]? ∧ ¬ own' k
theorem Moved.trans {o o1 o2 : Nat → Prop} {w w1 w2 : World} (h : Moved o o1 w w1) (k : Moved o1 o2 w1 w2) : Moved o o2 w w2 :=
  ⟨k.os.trans h.os, k.tape.trans h.tape, k.output.trans h.output, Nat.le_trans h.size k.size, fun i hi hn => ⟨(k.keep i (Nat.lt_of_lt_of_le hi h.size) (h.keep i hi hn).2).1.trans (h.keep i hi hn).1, (k.keep i (Nat.lt_of_lt_of_le hi h.size) (h.keep i hi hn).2).2⟩⟩
theorem Moved.of_below {o : Nat → Prop} {w w' : World} (h : Below w.heap.size w w') : Moved o o w w' := ⟨h.os, h.tape, h.output, h.size, fun k hk hn => ⟨h.block k hk, hn⟩⟩
theorem Moved.refl (o : Nat → Prop) (w : World) : Moved o o w w := Moved.of_below (Below.refl _ _)
theorem Moved.heap {o o' : Nat → Prop} {w w' : World} {k : Nat} {ob : Obj} (h : Moved o o' w w') (hn : ¬ o k) (hk : w.heap[k]? = some ob) : w'.heap[k]? = some ob := (h.keep k (lt_of_get hk) hn).1.trans hk
theorem Moved.free {o o' : Nat → Prop} {w w' : World} {k : Nat} (h : Moved o o' w w') (hn : ¬ o k) (hk : k < w.heap.size) : ¬ o' k := (h.keep k hk hn).2
theorem Moved.below {o o' : Nat → Prop} {w w' w2 : World} (h : Moved o o' w w') (hb : Below w'.heap.size w' w2) : Moved o o' w w2 := h.trans (Moved.of_below hb)
theorem Moved.set {o o' : Nat → Prop} {w w' : World} (h : Moved o o' w w') {p : Addr} (hp : w.heap.size ≤ p.block) (v : Value) : Moved o o' w (w'.setCell p v) :=
  ⟨h.os, h.tape, h.output, by simpa [World.setCell] using h.size, fun k hk hn => ⟨(Below.heap_setCell _ _ _ _ (by omega)).trans (h.keep k hk hn).1, (h.keep k hk hn).2⟩⟩
/-- One that may be asked: what it has of its own; how it goes on; what it answers. -/
structure Asking (F : FuncId) (caps : Array Value) {σ : Type} (St : σ → (Nat → Prop) → World → Prop) (step : σ → List Int → σ) (ans err : σ → List Int → Int) (can : σ → List Int → Prop) : Prop where
  hen : ∀ (args : Array Value) (w : World), (callFunc F args).run Tryz.prog w = .ok (.enter F args) w
  lt : ∀ {s own w}, St s own w → ∀ {k}, own k → k < w.heap.size
  on : ∀ {s own w w'}, St s own w → w.heap.size ≤ w'.heap.size → (∀ k, own k → w'.heap[k]? = w.heap[k]?) → St s own w'
  bound : ∀ s xs, 0 ≤ ans s xs ∧ ans s xs < 340282366920938463463374607431768211456
  call : ∀ s own w g xs N, can s xs → St s own w → Row w g xs → xs.length = N → ElemsOK xs → ¬ own g → Calls Tryz.prog F (#[.slice (some ⟨g, 0, none⟩) N N] ++ caps) w fun e w' =>
    e = .returned (.tuple #[.agg #[.int .u64 (lo (ans s xs)), .int .u64 (hi (ans s xs))], .int .i64 (err s xs)]) ∧ ∃ own', Moved own own' w w' ∧ St (step s xs) own' w'
section
variable {F : FuncId} {caps : Array Value} {σ : Type} {St : σ → (Nat → Prop) → World → Prop} {step : σ → List Int → σ} {ans err : σ → List Int → Int} {can : σ → List Int → Prop}
theorem Asking.below (h : Asking F caps St step ans err can) {s : σ} {own : Nat → Prop} {w w' : World} (hs : St s own w) (hb : Below w.heap.size w w') : St s own w' := h.on hs hb.size (fun k hk => hb.block k (h.lt hs hk))
theorem Asking.new (h : Asking F caps St step ans err can) {s : σ} {own : Nat → Prop} {w : World} (hs : St s own w) {k : Nat} (hk : w.heap.size ≤ k) : ¬ own k := fun ho => by have := h.lt hs ho; omega
theorem Asking.set (h : Asking F caps St step ans err can) {s : σ} {own : Nat → Prop} {w : World} (hs : St s own w) {p : Addr} (hp : ¬ own p.block) (v : Value) : St s own (w.setCell p v) :=
  h.on hs (by simp [World.setCell]) (fun k hk => Below.heap_setCell _ _ _ _ (fun e => hp (e ▸ hk)))
end
/-- What an asking leaves. -/
def AskOut {σ : Type} (St : σ → (Nat → Prop) → World → Prop) (own : Nat → Prop) (a c : Int) (s' : σ) (w : World) (e : Ending) (w' : World) : Prop :=
  e = .returned (.tuple #[.agg #[.int .u64 (lo a), .int .u64 (hi a)], .int .i64 c]) ∧ ∃ own', Moved own own' w w' ∧ St s' own' w'
theorem wpS_rec2 {P : Program} {id : Nat} {o o2 : Oper} {Q : Exit → Act → List Frame → World → Prop} {a : Act} {cs : List Frame} {w : World} (hg : o.guard = none) (ho : o.op = .call { callee := .builtin .recover, args := #[], argTypes := #[] })
    (hr : recoverD cs = none) (hg2 : o2.guard = none) (v2 : Value) (h2 : (execOp (a.put o.dst .nilIface).eval o2).run P w = .ok (.value v2) w) (h : Q .normal ((a.put o.dst .nilIface).put o2.dst v2) cs w) : (Code.region id #[o, o2] false).wpS P Q a cs w := by
  apply wpS_region
  have hrun : (execOp a.eval o).run P w = .ok .recover w := by
    unfold execOp
    simp [ho, resolve, invoke, builtin]
  have hwant : Region.wanted o (yielded #[o, o2] a.tmps) = true := by simp [Region.wanted, hg]
  have hwant2 : Region.wanted o2 (yielded #[o, o2] (a.put o.dst .nilIface).tmps) = true := by simp [Region.wanted, hg2]
  have hrange : List.range (#[o, o2] : Array Oper).size = [0, 1] := rfl
  rw [hrange]
  unfold wpOpsS
  simp only [List.getElem?_toArray, List.getElem?_cons_zero, hwant, if_true, hrun, hr]
  unfold wpOpsS
  simp only [List.getElem?_toArray, List.getElem?_cons_succ, List.getElem?_cons_zero, hwant2, if_true, h2]
  unfold Oper.upon
  simp only [wpOpsS]
  exact h
theorem ask1_ok (p q : Nat) (w : World) : CallsD Tryz.prog 146 #[.pointer (some ⟨p, 0, none⟩), .pointer (some ⟨q, 0, none⟩)] .returning w (fun e u' w' => e = .returned (.tuple #[]) ∧ u' = .returning ∧ w' = w) := by
  refine callsD_of_wpS Tryz.func146 rfl fun c₀ cs hu => ?_
  apply wpS_seq
  simp only [Tryz.ntmps146, List.size_toArray, List.length_cons, List.length_nil, Nat.reduceAdd, Nat.reduceSub, Array.replicate_succ, Array.replicate_zero, List.push_toArray, List.append_toArray, List.nil_append, List.cons_append]
  refine wpS_rec2 rfl rfl (by simp [recoverD, hu]) rfl (.bool false) (by simp [execOp, go_sem]) ?_
  simp only [Exit.thenS]
  refine wpS_cond (t := false) rfl ?_
  refine wpS_of_wp ?_
  simp only [Act.put]
  go_wp2_with fail
  exact ⟨rfl, .returning, by rw [← hu], .tuple #[], by simp [results, Tryz.results146, go_sem], rfl, rfl, rfl⟩
section
variable {F : FuncId} {caps : Array Value} {σ : Type} {St : σ → (Nat → Prop) → World → Prop} {step : σ → List Int → σ} {ans err : σ → List Int → Int} {can : σ → List Int → Prop}
set_option maxHeartbeats 2000000 in
theorem ask_any (hF : Asking F caps St step ans err can) (s : σ) (own : Nat → Prop) (g : Nat) (xs : List Int) (N : Nat) (hcan : can s xs) (hl : xs.length = N) (hx : ElemsOK xs) (w : World) (hs : St s own w) (hg : Row w g xs) (hn : ¬ own g) :
    Calls Tryz.prog 117 #[.func (.func F) #[] caps, .slice (some ⟨g, 0, none⟩) N N] w (AskOut St own (ans s xs) (err s xs) (step s xs) w) := by
  have hmf : ∀ (fn : Fn) (first cap : Array Value) (w : World), (Instr.makeFunc fn first cap).run Tryz.prog w = .ok (.func fn first cap) w := fun _ _ _ _ => rfl
  have hen := hF.hen
  have hb1 : Below w.heap.size w ((w.alloc (.cells #[.int .u64 0, .int .u64 0] 28)).alloc (.cells #[.int .i64 0] 35)) := ((Below.refl _ _).alloc (Nat.le_refl _) _).alloc (by simp) _
  have hc := hF.call s own _ g xs N hcan (hF.below hs hb1) (hg.up hb1) hl hx hn
  replace hc := Lib.hid hc
  go_enter_defers Tryz.func117, Tryz.ntmps117
  go_wp2_with fail
  refine hc.out.mono ?_
  rintro e w2 ⟨rfl, own', hm, hs2⟩
  have hs1 := hF.below hs hb1
  have u0 : ¬ own w.heap.size := hF.new hs (Nat.le_refl _)
  have u1 : ¬ own (w.heap.size + 1) := hF.new hs (Nat.le_succ _)
  have k0 : Holds w2 w.heap.size 0 := hm.heap u0 (alloc_keeps (alloc_at rfl))
  have k1 : w2.heap[w.heap.size + 1]? = some (.cells #[.int .i64 0] 35 (0, 0)) := hm.heap u1 (alloc_at (by simp))
  have v0 : ¬ own' w.heap.size := hm.free u0 (by simp; omega)
  have v1 : ¬ own' (w.heap.size + 1) := hm.free u1 (by simp)
  have hmw : Moved own own' w w2 := (Moved.of_below hb1).trans hm
  generalize hz : ans s xs = z at *
  generalize hc2 : err s xs = c at *
  clear hc hs hg hs1 hb1 hm u0 u1
  obtain ⟨t0, t1, t2, t3⟩ := blk2 k0
  have t4 : w2.cell? ⟨w.heap.size + 1, 0, none⟩ = some (.int .i64 0) := by simp [World.cell?, k1]
  have t5 : w2.frozen? ⟨w.heap.size + 1, 0, none⟩ = false := by simp [World.frozen?, k1]
  have hne : w.heap.size + 1 ≠ w.heap.size := by omega
  have l1 : (w2.setCell ⟨w.heap.size, 0, none⟩ (.int .u64 (lo z))).heap[w.heap.size + 1]? = some (.cells #[.int .i64 0] 35 (0, 0)) := store_far k1 hne
  go_wp2_with fail
  have ka := (k0.set z)
  replace ka : Holds (((w2.setCell ⟨w.heap.size, 0, none⟩ (.int .u64 (lo z))).setCell ⟨w.heap.size, 1, none⟩ (.int .u64 (hi z))).setCell ⟨w.heap.size + 1, 0, none⟩ (.int .i64 c)) w.heap.size z := store_far ka hne.symm
  have kb : (((w2.setCell ⟨w.heap.size, 0, none⟩ (.int .u64 (lo z))).setCell ⟨w.heap.size, 1, none⟩ (.int .u64 (hi z))).setCell ⟨w.heap.size + 1, 0, none⟩ (.int .i64 c)).heap[w.heap.size + 1]? = some (.cells #[.int .i64 c] 35 (0, 0)) :=
    (store1 (store2_far k1 hne) (o := 0) (v := .int .i64 c)).trans rfl
  have hm3 := ((hmw.set (p := ⟨w.heap.size, 0, none⟩) (Nat.le_refl _) (.int .u64 (lo z))).set (p := ⟨w.heap.size, 1, none⟩) (Nat.le_refl _) (.int .u64 (hi z))).set (p := ⟨w.heap.size + 1, 0, none⟩) (Nat.le_succ _) (.int .i64 c)
  have hs3 := hF.set (hF.set (hF.set hs2 (p := ⟨w.heap.size, 0, none⟩) v0 (.int .u64 (lo z))) (p := ⟨w.heap.size, 1, none⟩) v0 (.int .u64 (hi z))) (p := ⟨w.heap.size + 1, 0, none⟩) v1 (.int .i64 c)
  generalize ((w2.setCell ⟨w.heap.size, 0, none⟩ (.int .u64 (lo z))).setCell ⟨w.heap.size, 1, none⟩ (.int .u64 (hi z))).setCell ⟨w.heap.size + 1, 0, none⟩ (.int .i64 c) = w4 at *
  refine leaves_cons (f := 146) (args := #[.pointer (some ⟨w.heap.size, 0, none⟩), .pointer (some ⟨w.heap.size + 1, 0, none⟩)]) (by simp) (by simp [go_sem]) ?_
  refine (ask1_ok w.heap.size (w.heap.size + 1) w4).mono ?_
  rintro e u' w3 ⟨rfl, rfl, rfl⟩
  obtain ⟨p2, q2, -, -⟩ := blk2 ka
  have e3 : w3.cell? ⟨w.heap.size + 1, 0, none⟩ = some (.int .i64 c) := by simp [World.cell?, kb]
  exact ⟨.tuple #[.agg #[.int .u64 (lo z), .int .u64 (hi z)], .int .i64 c], by simp [results, Tryz.results117, go_sem, p2, q2, e3], rfl, own', hm3, hs3⟩
end
end Go.Proofs.YtebgfelbffgnbaaGreatDoor

/-
  A walk in which another's function is called: what is kept; what is said of a Count.
-/
namespace Go.Proofs.YtebgfelbffgnbaaGreatDoor
open Go.RowKit Flow F
set_option linter.unusedVariables false
set_option linter.unusedSimpArgs false
attribute [local go_sem] eql_elem

theorem ElemsAt.moved {own own' : Nat → Prop} {w w' : World} {A : Option Addr} {xs : List Int} (h : ElemsAt w A xs) (hno : ∀ a, A = some a → ¬ own a.block) (hm : Moved own own' w w') : ElemsAt w' A xs := fun k hk => by
  obtain ⟨b, o, e, h0, h1⟩ := h k hk
  have hn := hno _ e
  have hlt := World.block_lt_of_cell? _ _ h0
  simp only at hn hlt
  have hb := (hm.keep b hlt hn).1
  exact ⟨b, o, e, (World.cell?_of_block (w := w) (a := ⟨b, o + k * 2, none⟩) hb).trans h0, (World.cell?_of_block (w := w) (a := ⟨b, o + k * 2 + 1, none⟩) hb).trans h1⟩
section
variable {F : FuncId} {caps : Array Value} {σ : Type} {St : σ → (Nat → Prop) → World → Prop} {step : σ → List Int → σ} {ans err : σ → List Int → Int} {can : σ → List Int → Prop}
/-- What lasts: the circuit's variable, variables of an element each; what has moved since. -/
structure Rn (St : σ → (Nat → Prop) → World → Prop) (w0 : World) (own : Nat → Prop) (cs : Array Value) (mine : List (Nat × Int)) (s : σ) (own' : Nat → Prop) (wr : World) : Prop where
  mv : Moved own own' w0 wr
  st : St s own' wr
  k0 : wr.heap[w0.heap.size]? = some (.cells cs 33 (0, 0))
  f0 : ¬ own' w0.heap.size
  hs : ∀ p, p ∈ mine → w0.heap.size < p.1 ∧ Holds wr p.1 p.2 ∧ ¬ own' p.1
variable {w0 wr : World} {own own' : Nat → Prop} {cs : Array Value} {mine mine' : List (Nat × Int)} {s s' : σ}
theorem Rn.up (h : Rn St w0 own cs mine s own' wr) (hF : Asking F caps St step ans err can) {w' : World} (hb : Below wr.heap.size wr w') : Rn St w0 own cs mine s own' w' :=
  ⟨h.mv.below hb, hF.below h.st hb, keeps hb h.k0, h.f0, fun p hp => ⟨(h.hs p hp).1, (h.hs p hp).2.1.up hb, (h.hs p hp).2.2⟩⟩
theorem Rn.ask (h : Rn St w0 own cs mine s own' wr) {w' : World} {own2 : Nat → Prop} (hm : Moved own' own2 wr w') (hs : St s' own2 w') : Rn St w0 own cs mine s' own2 w' :=
  ⟨h.mv.trans hm, hs, hm.heap h.f0 h.k0, hm.free h.f0 (lt_of_get h.k0), fun p hp => ⟨(h.hs p hp).1, hm.heap (h.hs p hp).2.2 (h.hs p hp).2.1, hm.free (h.hs p hp).2.2 (lt_of_get (h.hs p hp).2.1)⟩⟩
theorem Rn.set (h : Rn St w0 own cs mine s own' wr) (hF : Asking F caps St step ans err can) {p : Nat} {z0 z : Int} (hp : (p, z0) ∈ mine) (hm : ∀ q, q ∈ mine' → q = (p, z) ∨ (q ∈ mine ∧ q.1 ≠ p)) :
    Rn St w0 own cs mine' s own' ((wr.setCell ⟨p, 0, none⟩ (.int .u64 (lo z))).setCell ⟨p, 1, none⟩ (.int .u64 (hi z))) := by
  obtain ⟨h1, h2, h3⟩ := h.hs _ hp
  simp only at h1 h2 h3
  refine ⟨(h.mv.set (p := ⟨p, 0, none⟩) (Nat.le_of_lt h1) _).set (p := ⟨p, 1, none⟩) (Nat.le_of_lt h1) _, hF.set (hF.set h.st (p := ⟨p, 0, none⟩) h3 _) (p := ⟨p, 1, none⟩) h3 _, store2_far h.k0 (Nat.ne_of_lt h1), h.f0, fun q hq => ?_⟩
  rcases hm q hq with rfl | ⟨hq', hne⟩
  · exact ⟨h1, h2.set z, h3⟩
  · obtain ⟨g1, g2, g3⟩ := h.hs q hq'
    exact ⟨g1, g2.far hne, g3⟩
theorem Rn.add (h : Rn St w0 own cs mine s own' wr) (hF : Asking F caps St step ans err can) (z : Int) {p : Nat} (hp : p = wr.heap.size) : Rn St w0 own cs ((p, z) :: mine) s own' (wr.alloc (.cells #[.int .u64 (lo z), .int .u64 (hi z)] 28)) := by
  subst hp
  have h' := h.up hF ((Below.refl _ _).alloc (Nat.le_refl _) (.cells #[.int .u64 (lo z), .int .u64 (hi z)] 28))
  refine ⟨h'.mv, h'.st, h'.k0, h'.f0, fun q hq => ?_⟩
  rcases List.mem_cons.1 hq with rfl | hq
  · exact ⟨lt_of_get h.k0, alloc_at rfl, hF.new h.st (Nat.le_refl _)⟩
  · exact h'.hs q hq
theorem Rn.less (h : Rn St w0 own cs mine s own' wr) (hm : ∀ q, q ∈ mine' → q ∈ mine) : Rn St w0 own cs mine' s own' wr := ⟨h.mv, h.st, h.k0, h.f0, fun q hq => h.hs q (hm q hq)⟩
theorem Rn.begin (hF : Asking F caps St step ans err can) (w0 : World) (hs : St s own w0) (cs : Array Value) : Rn St w0 own cs [] s own (w0.alloc (.cells cs 33)) :=
  ⟨Moved.of_below ((Below.refl _ _).alloc (Nat.le_refl _) _), hF.below hs ((Below.refl _ _).alloc (Nat.le_refl _) _), alloc_at rfl, hF.new hs (Nat.le_refl _), fun q hq => by cases hq⟩
theorem Rn.at (h : Rn St w0 own cs mine s own' wr) {p : Nat} {z : Int} (hp : (p, z) ∈ mine) : Holds wr p z := (h.hs _ hp).2.1
theorem Rn.out (h : Rn St w0 own cs mine s own' wr) : ∃ own', Moved own own' w0 wr ∧ St s own' wr := ⟨own', h.mv, h.st⟩
set_option maxRecDepth 20000 in
set_option maxHeartbeats 4000000 in
theorem runCount_any (hF : Asking F caps St step ans err can) (x : Ci) (h : x.Good) (z : Int) (hz : 0 ≤ z ∧ z < 340282366920938463463374607431768211456) (s : σ) (hcan : can s [z, z]) (own : Nat → Prop) (w : World) (hs : St s own w) :
    Calls Tryz.prog 79 #[cvl x, .agg #[.int .u64 (lo z), .int .u64 (hi z)], .func (.func F) #[] caps] w (AskOut St own (if err s [z, z] = 0 then sub x.f (ans s [z, z]) z else 0) (err s [z, z]) (step s [z, z]) w) := by
  have fb := fb_of h.f
  have hab := hF.bound s [z, z]
  have hsub := Lib.hid ((fb.hsub (ans s [z, z]) z hab.1 hab.2 hz.1 hz.2).2)
  have hask := fun own' g w hs hg hn => ask_any hF s own' g [z, z] 2 hcan rfl (fun y hy => by simp at hy; omega) w hs hg hn
  replace hask := Lib.hid hask
  obtain ⟨k, f, b, l, W, c⟩ := x
  simp only at hsub
  generalize ans s [z, z] = a at *
  generalize err s [z, z] = er at *
  generalize step s [z, z] = s2 at *
  obtain ⟨rv, hrv⟩ : ∃ rv, (if er = 0 then sub f a z else 0) = rv := ⟨_, rfl⟩
  rw [hrv]
  replace hrv := Lib.hid hrv
  unfold cvl
  clear h fb
  go_enter Tryz.func79, Tryz.ntmps79
  go_upto_region 1 with (fail)
  refine name_wp (fun w1 => Rn St w own #[.int .u8 k, .int .u8 f, .int .i64 b, .int .i64 l, .int .i64 W, .int .i64 c] [(w.heap.size + 1 + 1, 0), (w.heap.size + 1, z)] s own w1) (((Rn.begin hF w hs #[.int .u8 k, .int .u8 f, .int .i64 b, .int .i64 l, .int .i64 W, .int .i64 c]).add hF z (p := w.heap.size + 1) (by simp)).add hF 0 (p := w.heap.size + 1 + 1) (by simp)) ?_
  intro w1 H
  generalize hp2 : w.heap.size + 1 + 1 = p2 at *
  generalize hp1 : w.heap.size + 1 = p1 at *
  have hh := Lib.hid (And.intro hp1 hp2)
  clear hp1 hp2 hs
  obtain ⟨t0, t1, -, -⟩ := blk2 (H.at (p := p1) (z := z) (by simp))
  go_wp2_with fail
  refine name_calls (fun w2 => Rn St w own #[.int .u8 k, .int .u8 f, .int .i64 b, .int .i64 l, .int .i64 W, .int .i64 c] [(p2, 0), (p1, z)] s own w2 ∧ Row w2 w1.heap.size [z, z] ∧ ¬ own w1.heap.size) ⟨H.up hF ((Below.refl _ _).alloc (Nat.le_refl _) _), alloc_at rfl, hF.new H.st (Nat.le_refl _)⟩ ?_
  clear H t0 t1
  generalize w1.heap.size = g at *
  rintro w2 ⟨H, hg, hn⟩
  refine (hask.out own g w2 H.st hg hn).mono ?_
  rintro e w3 ⟨rfl, own3, hm, hs3⟩
  replace H := H.ask hm hs3
  clear hm hs3 hg hn hask
  by_cases he : er = 0
  · have b1 : (er != 0) = false := by simpa using he
    have hrv2 := hrv.out
    rw [if_pos he] at hrv2
    subst he
    rw [hrv2] at hsub
    clear hrv hrv2
    go_upto_region 2 with (fail)
    refine name_wp (fun w4 => Rn St w own #[.int .u8 k, .int .u8 f, .int .i64 b, .int .i64 l, .int .i64 W, .int .i64 c] [(w3.heap.size, a), (p2, 0), (p1, z)] s2 own3 w4) (H.add hF a rfl) ?_
    clear H
    generalize w3.heap.size = p3 at *
    intro w4 H
    obtain ⟨c0, c1, c2, c3, c4, c5⟩ := blk6 H.k0
    obtain ⟨a0, a1, -, -⟩ := blk2 (H.at (p := p3) (z := a) (by simp))
    obtain ⟨z0, z1, -, -⟩ := blk2 (H.at (p := p1) (z := z) (by simp))
    go_wp2_with fail
    refine call_then (hsub.out _) ?_
    intro w5 hv
    replace H := H.up hF hv
    clear hv c0 c1 c2 c3 c4 c5 a0 a1 z0 z1
    obtain ⟨t0, t1, t2, t3⟩ := blk2 (H.at (p := p2) (z := 0) (by simp))
    have H9 := H.set hF (mine' := [(p2, rv)]) (p := p2) (z0 := 0) (z := rv) (by simp) (by simp)
    go_wp2
    obtain ⟨r0, r1, -, -⟩ := blk2 (H9.at (p := p2) (z := rv) (by simp))
    exact bodyPost_ret (v := .tuple #[.agg #[.int .u64 (lo rv), .int .u64 (hi rv)], .int .i64 0]) (by simp [results, Tryz.results79, go_sem, r0, r1]) rfl ⟨rfl, H9.out⟩
  · have b1 : (er != 0) = true := by simpa using he
    have hrv2 := hrv.out
    rw [if_neg he] at hrv2
    subst hrv2
    clear hrv hsub he
    go_upto_region 2 with (fail)
    refine name_wp (fun w4 => Rn St w own #[.int .u8 k, .int .u8 f, .int .i64 b, .int .i64 l, .int .i64 W, .int .i64 c] [(w3.heap.size, a), (p2, 0), (p1, z)] s2 own3 w4) (H.add hF a rfl) ?_
    clear H
    generalize w3.heap.size = p3 at *
    intro w4 H
    obtain ⟨t0, t1, t2, t3⟩ := blk2 (H.at (p := p2) (z := 0) (by simp))
    have H9 := H.set hF (mine' := [(p2, 0)]) (p := p2) (z0 := 0) (z := 0) (by simp) (by simp)
    go_wp2
    obtain ⟨r0, r1, -, -⟩ := blk2 (H9.at (p := p2) (z := 0) (by simp))
    rw [show lo 0 = 0 from rfl, show hi 0 = 0 from rfl] at r0 r1
    exact bodyPost_ret (v := .tuple #[.agg #[.int .u64 0, .int .u64 0], .int .i64 er]) (by simp [results, Tryz.results79, go_sem, r0, r1]) rfl ⟨rfl, H9.out⟩
end
end Go.Proofs.YtebgfelbffgnbaaGreatDoor

/-
  What is said of a Sum.
-/
namespace Go.Proofs.YtebgfelbffgnbaaGreatDoor
open Go.RowKit Flow F
set_option linter.unusedVariables false
set_option linter.unusedSimpArgs false
attribute [local go_sem] eql_elem

/-- Behind so many askings. -/
def stN {σ : Type} (step : σ → List Int → σ) (q : Nat → List Int) (s : σ) : Nat → σ
  | 0 => s
  | k + 1 => step (stN step q s k) (q k)
def totS (f r : Int) (a : Nat → Int) : Nat → Int
  | 0 => 0
  | k + 1 => add f (totS f r a k) (mul f (pwr f r k) (a k))
theorem totS_ok (f r : Int) (a : Nat → Int) : ∀ k, 0 ≤ totS f r a k ∧ totS f r a k < 340282366920938463463374607431768211456
  | 0 => by simp [totS]
  | k + 1 => by have := add_bound f (totS f r a k) (mul f (pwr f r k) (a k)); have := M_lt f; unfold totS; omega
theorem getD_ok {xs : List Int} (h : ElemsOK xs) (j : Nat) : 0 ≤ xs.getD j 0 ∧ xs.getD j 0 < 340282366920938463463374607431768211456 := by
  by_cases hj : j < xs.length
  · exact h.at_ hj
  · rw [List.getD_eq_getElem?_getD, List.getElem?_eq_none (by omega)]; simp
theorem one_ok {xs : List Int} (h : ElemsOK xs) (j : Nat) : ElemsOK [xs.getD j 0] := fun y hy => by
  obtain rfl := List.mem_singleton.1 hy
  exact getD_ok h j
section
variable {F : FuncId} {caps : Array Value} {σ : Type} {St : σ → (Nat → Prop) → World → Prop} {step : σ → List Int → σ} {ans err : σ → List Int → Int} {can : σ → List Int → Prop}
/-- What so many askings leave: the first error; or what is said. -/
def Ran (St : σ → (Nat → Prop) → World → Prop) (step : σ → List Int → σ) (err : σ → List Int → Int) (own : Nat → Prop) (q : Nat → List Int) (n : Nat) (said : Int) (s : σ) (w : World) (e : Ending) (w' : World) : Prop :=
  (∃ j, j < n ∧ err (stN step q s j) (q j) ≠ 0 ∧ (∀ i, i < j → err (stN step q s i) (q i) = 0) ∧ AskOut St own 0 (err (stN step q s j) (q j)) (stN step q s (j + 1)) w e w') ∨
    ((∀ i, i < n → err (stN step q s i) (q i) = 0) ∧ AskOut St own said 0 (stN step q s n) w e w')
set_option maxRecDepth 20000 in
set_option maxHeartbeats 4000000 in
theorem runSum_any (hF : Asking F caps St step ans err can) (x : Ci) (h : x.Good) (xs : List Int) (A : Option Addr) (m cp : Nat) (hl : xs.length = m) (hm : m ≤ maxLen) (hx : ElemsOK xs) (r : Int) (hr0 : 0 ≤ r ∧ r < 340282366920938463463374607431768211456) (s : σ) (own : Nat → Prop) (w : World) (hs : St s own w) (hA : ElemsAt w A xs) (hno : ∀ a, A = some a → ¬ own a.block)
    (q : Nat → List Int) (hq : ∀ k, q k = [xs.getD k 0]) (hcan : ∀ i, i < m → can (stN step q s i) (q i)) :
    Calls Tryz.prog 80 #[cvl x, .slice A m cp, .agg #[.int .u64 (lo r), .int .u64 (hi r)], .func (.func F) #[] caps] w (Ran St step err own q m (totS x.f r (fun k => ans (stN step q s k) (q k)) m) s w) := by
  have fb := fb_of h.f
  have hmul := fb.hmul
  have hadd := fb.hadd
  have hpw := pwr_ok (f := x.f) hr0
  obtain ⟨R, hR⟩ : ∃ R, pwr x.f r = R := ⟨_, rfl⟩
  have hR0 : R 0 = r := by rw [← hR]; rfl
  have hR1 : ∀ j, mul x.f (R j) r = R (j + 1) := fun j => by rw [← hR]; rfl
  obtain ⟨a, ha⟩ : ∃ a, (fun k => ans (stN step q s k) (q k)) = a := ⟨_, rfl⟩
  have hak : ∀ k, ans (stN step q s k) (q k) = a k := fun k => by rw [← ha]
  have hab : ∀ k, 0 ≤ a k ∧ a k < 340282366920938463463374607431768211456 := fun k => by rw [← hak]; exact hF.bound _ _
  have hTb := totS_ok x.f r a
  obtain ⟨T, hT⟩ : ∃ T, totS x.f r a = T := ⟨_, rfl⟩
  have hT0 : T 0 = 0 := by rw [← hT]; rfl
  have hT1 : ∀ j, add x.f (T j) (mul x.f (R j) (a j)) = T (j + 1) := fun j => by rw [← hT, ← hR]; rfl
  rw [ha, hT]
  rw [hR] at hpw
  rw [hT] at hTb
  clear hT hR ha
  obtain ⟨S, hS⟩ : ∃ S, stN step q s = S := ⟨_, rfl⟩
  have hS0 : S 0 = s := by rw [← hS]; rfl
  have hS1 : ∀ j, step (S j) (q j) = S (j + 1) := fun j => by rw [← hS]; rfl
  unfold Ran
  rw [hS] at hak hcan
  rw [hS]
  clear hS
  obtain ⟨er, her⟩ : ∃ er : Nat → Int, ∀ k, err (S k) (q k) = er k := ⟨_, fun _ => rfl⟩
  simp only [her]
  have hask := fun j (hj : j < m) own' g w (hs : St (S j) own' w) (hg : Row w g (q j)) (hn : ¬ own' g) => ask_any hF (S j) own' g (q j) 1 (hcan j hj) (by rw [hq]; rfl) (by rw [hq]; exact one_ok hx j) w hs hg hn
  simp only [hak, her, hS1] at hask
  simp only [hq] at hask
  clear hq hcan
  obtain ⟨k, f, b, l, W, c⟩ := x
  simp only at hmul hadd hR1 hT1
  replace hask := Lib.hid hask
  replace hmul := Lib.hid hmul
  replace hadd := Lib.hid hadd
  replace hpw := Lib.hid hpw
  replace hR1 := Lib.hid hR1
  replace hT1 := Lib.hid hT1
  replace hTb := Lib.hid hTb
  replace hab := Lib.hid hab
  replace hS1 := Lib.hid hS1
  replace hA := Lib.hid hA
  replace hl := Lib.hid hl
  replace hx := Lib.hid hx
  replace hno := Lib.hid hno
  unfold maxLen at hm
  unfold cvl
  clear h fb her
  have hM := M_lt f
  go_enter Tryz.func80, Tryz.ntmps80
  go_upto_region 3 with (fail)
  refine name_wp (fun w1 => Rn St w own #[.int .u8 k, .int .u8 f, .int .i64 b, .int .i64 l, .int .i64 W, .int .i64 c] [(w.heap.size + 1 + 1 + 1 + 1, R 0), (w.heap.size + 1 + 1 + 1, T 0), (w.heap.size + 1 + 1, 0), (w.heap.size + 1, r)] (S 0) own w1) (by
    rw [hR0, hT0, hS0]
    exact ((((Rn.begin hF w hs #[.int .u8 k, .int .u8 f, .int .i64 b, .int .i64 l, .int .i64 W, .int .i64 c]).add hF r (p := w.heap.size + 1) (by simp)).add hF 0 (p := w.heap.size + 1 + 1) (by simp)).add hF 0 (p := w.heap.size + 1 + 1 + 1) (by simp)).add hF r (p := w.heap.size + 1 + 1 + 1 + 1) (by simp)) ?_
  intro w1 H
  generalize hp4 : w.heap.size + 1 + 1 + 1 + 1 = p4 at *
  generalize hp3 : w.heap.size + 1 + 1 + 1 = p3 at *
  generalize hp2 : w.heap.size + 1 + 1 = p2 at *
  generalize hp1 : w.heap.size + 1 = p1 at *
  have n21 : p2 ≠ p1 := by omega
  have n31 : p3 ≠ p1 := by omega
  have n32 : p3 ≠ p2 := by omega
  have n41 : p4 ≠ p1 := by omega
  have n42 : p4 ≠ p2 := by omega
  have n43 : p4 ≠ p3 := by omega
  have hne := Lib.hid (And.intro n21 (And.intro n31 (And.intro n32 (And.intro n41 (And.intro n42 n43)))))
  clear hp1 hp2 hp3 hp4 hs hR0 hT0 hS0 n21 n31 n32 n41 n42 n43
  go_wp2
  go_loopw [19] (fun i wr => ∃ (j : Nat) (own' : Nat → Prop), j ≤ m ∧ i = .int .i64 (j : Int) ∧ Rn St w own #[.int .u8 k, .int .u8 f, .int .i64 b, .int .i64 l, .int .i64 W, .int .i64 c] [(p4, R j), (p3, T j), (p2, 0), (p1, r)] (S j) own' wr ∧ Hid (∀ i, i < j → er i = 0)) (fun i _ => m - (intOf i).toNat)
  case atStart => exact ⟨0, own, Nat.zero_le _, rfl, H, Lib.hid (fun i hi => absurd hi (Nat.not_lt_zero _))⟩
  case round =>
    clear H
    obtain ⟨j, own', hj, rfl, H, hz0⟩ := hrel
    by_cases hlt : j < m
    · have j1 : (j : Int) < (m : Int) := by omega
      have j0 : (0 : Int) ≤ (j : Int) := by omega
      obtain ⟨pb, po, rfl, hc0, hc1⟩ := (hA.out.moved hno.out H.mv) j (by rw [hl.out]; exact hlt)
      have hz := hx.out.at_ (k := j) (by rw [hl.out]; exact hlt)
      have haj := Lib.hid (hask.out j hlt)
      generalize xs.getD j 0 = z at *
      have hRj := hpw.out j
      have haB := hab.out j
      have hmz := mul_bound f (R j) (a j)
      have hTj := hTb.out j
      have h1 := Lib.hid ((hmul.out (R j) (a j) hRj.1 hRj.2 haB.1 haB.2).2)
      have h2 := Lib.hid ((hadd.out (T j) (mul f (R j) (a j)) hTj.1 hTj.2 hmz.1 (by omega)).2)
      have h3 := Lib.hid ((hmul.out (R j) r hRj.1 hRj.2 hr0.1 hr0.2).2)
      rw [hT1.out] at h2
      rw [hR1.out] at h3
      clear hRj haB hTj hmz
      generalize mul f (R j) (a j) = Z at *
      go_upto_region 6 with (fail)
      refine name_wp (fun w2 => Rn St w own #[.int .u8 k, .int .u8 f, .int .i64 b, .int .i64 l, .int .i64 W, .int .i64 c] [(wr.heap.size, z), (p4, R j), (p3, T j), (p2, 0), (p1, r)] (S j) own' w2) (H.add hF z rfl) ?_
      clear H hc0 hc1
      generalize wr.heap.size = px at *
      intro w2 H
      obtain ⟨t0, t1, -, -⟩ := blk2 (H.at (p := px) (z := z) (by simp))
      go_wp2_with fail
      refine name_calls (fun w3 => Rn St w own #[.int .u8 k, .int .u8 f, .int .i64 b, .int .i64 l, .int .i64 W, .int .i64 c] [(p4, R j), (p3, T j), (p2, 0), (p1, r)] (S j) own' w3 ∧ Row w3 w2.heap.size [z] ∧ ¬ own' w2.heap.size) ⟨(H.up hF ((Below.refl _ _).alloc (Nat.le_refl _) _)).less (by simp), alloc_at rfl, hF.new H.st (Nat.le_refl _)⟩ ?_
      clear H t0 t1
      generalize w2.heap.size = g at *
      rintro w3 ⟨H, hg, hn⟩
      refine (haj.out own' g w3 H.st hg hn).mono ?_
      rintro e w4 ⟨rfl, own3, hm3, hs3⟩
      replace H := H.ask hm3 hs3
      clear hm3 hs3 hg hn haj
      by_cases he : er j = 0
      · have hz1 : Hid (∀ i, i < j + 1 → er i = 0) := Lib.hid (fun i hi => by
          rcases Nat.lt_succ_iff_lt_or_eq.1 hi with h | rfl
          · exact hz0.out i h
          · exact he)
        rw [he]
        clear he
        go_upto_region 7 with (fail)
        refine name_wp (fun w5 => Rn St w own #[.int .u8 k, .int .u8 f, .int .i64 b, .int .i64 l, .int .i64 W, .int .i64 c] [(w4.heap.size, a j), (p4, R j), (p3, T j), (p2, 0), (p1, r)] (S (j + 1)) own3 w5) (H.add hF (a j) rfl) ?_
        clear H
        generalize w4.heap.size = p6 at *
        intro w5 H
        obtain ⟨c0, c1, c2, c3, c4, c5⟩ := blk6 H.k0
        go_upto_region 9 with (fail)
        clear c0 c1 c2 c3 c4 c5
        refine wp_region_flow1 9 (by kernel_rfl) (by kernel_rfl) (by kernel_rfl) ?_
        apply Exists.intro
        refine ⟨fun ι _ φ hφ => ?_, fun w6 hv => ?_⟩
        · have q1 := fun i => (blk6 (keeps (hφ.old i) H.k0)).2.1
          obtain ⟨e0, e1⟩ := hφ.two (H.at (p := p3) (z := T j) (by simp))
          obtain ⟨e2, e3⟩ := hφ.two (H.at (p := p4) (z := R j) (by simp))
          obtain ⟨e4, e5⟩ := hφ.two (H.at (p := p6) (z := a j) (by simp))
          simp only [List.take_succ_cons, List.take_zero]
          repeat (go_big_quiet_step ((first
            | (go_at_call 82; exact flow_call hφ (h2.out _))
            | (go_at_call 87; exact flow_call hφ (h1.out _)))))
          exact wpQuiet_nil rfl
        replace H := H.up hF hv
        clear hv
        simp only [List.drop_succ_cons, List.drop_zero]
        obtain ⟨t0, t1, t2, t3⟩ := blk2 (H.at (p := p3) (z := T j) (by simp))
        go_upto_region 10 with (fail)
        refine name_wp (fun w7 => Rn St w own #[.int .u8 k, .int .u8 f, .int .i64 b, .int .i64 l, .int .i64 W, .int .i64 c] [(p4, R j), (p3, T (j + 1)), (p2, 0), (p1, r)] (S (j + 1)) own3 w7) (H.set hF (p := p3) (z0 := T j) (z := T (j + 1)) (by simp) (by have := hne.out; simp; omega)) ?_
        clear H t0 t1 t2 t3
        intro w7 H
        obtain ⟨c0, c1, c2, c3, c4, c5⟩ := blk6 H.k0
        obtain ⟨t0, t1, t2, t3⟩ := blk2 (H.at (p := p4) (z := R j) (by simp))
        obtain ⟨s0, s1, -, -⟩ := blk2 (H.at (p := p1) (z := r) (by simp))
        go_wp2_with fail
        refine call_then (h3.out _) ?_
        intro w8 hv
        replace H := H.up hF hv
        clear hv c0 c1 c2 c3 c4 c5 s0 s1 t0 t1 t2 t3
        obtain ⟨t0, t1, t2, t3⟩ := blk2 (H.at (p := p4) (z := R j) (by simp))
        have H9 := Lib.hid (H.set hF (mine' := [(p4, R (j + 1)), (p3, T (j + 1)), (p2, 0), (p1, r)]) (p := p4) (z0 := R j) (z := R (j + 1)) (by simp) (by have := hne.out; simp; omega))
        clear H
        go_wp2
        exact ⟨⟨j + 1, own3, by omega, by go_num, H9.out, hz1⟩, by simp [intOf]; omega⟩
      · have b1 : (er j != 0) = true := by simpa using he
        replace he := Lib.hid he
        go_upto_region 7 with (fail)
        refine name_wp (fun w5 => Rn St w own #[.int .u8 k, .int .u8 f, .int .i64 b, .int .i64 l, .int .i64 W, .int .i64 c] [(p2, 0)] (S (j + 1)) own3 w5) ((H.add hF (a j) rfl).less (by simp)) ?_
        clear H
        generalize w4.heap.size = p6 at *
        intro w5 H
        obtain ⟨t0, t1, t2, t3⟩ := blk2 (H.at (p := p2) (z := 0) (by simp))
        have H9 := H.set hF (mine' := [(p2, 0)]) (p := p2) (z0 := 0) (z := 0) (by simp) (by simp)
        go_wp2
        obtain ⟨r0, r1, -, -⟩ := blk2 (H9.at (p := p2) (z := 0) (by simp))
        rw [show lo 0 = 0 from rfl, show hi 0 = 0 from rfl] at r0 r1
        exact bodyPost_ret (v := .tuple #[.agg #[.int .u64 0, .int .u64 0], .int .i64 (er j)]) (by simp [results, Tryz.results80, go_sem, r0, r1]) rfl (Or.inl ⟨j, hlt, he.out, hz0.out, rfl, H9.out⟩)
    · obtain rfl : m = j := by omega
      have j1 : ¬ (m : Int) < (m : Int) := by omega
      obtain ⟨t0, t1, t2, t3⟩ := blk2 (H.at (p := p2) (z := 0) (by simp))
      obtain ⟨s0, s1, -, -⟩ := blk2 (H.at (p := p3) (z := T m) (by simp))
      have H9 := H.set hF (mine' := [(p2, T m)]) (p := p2) (z0 := 0) (z := T m) (by simp) (by simp)
      go_wp2
      obtain ⟨r0, r1, -, -⟩ := blk2 (H9.at (p := p2) (z := T m) (by simp))
      exact bodyPost_ret (v := .tuple #[.agg #[.int .u64 (lo (T m)), .int .u64 (hi (T m))], .int .i64 0]) (by simp [results, Tryz.results80, go_sem, r0, r1]) rfl (Or.inr ⟨hz0.out, rfl, H9.out⟩)
end
end Go.Proofs.YtebgfelbffgnbaaGreatDoor
