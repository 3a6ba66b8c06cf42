/-
  Whether a point is none of a domain's, as the law asks it.
-/
import Derived.Test.YtebgfelbffgnbaaGreatDoorPfP
namespace Go.Proofs.YtebgfelbffgnbaaGreatDoor
open Go.RowKit Flow F
set_option linter.unusedVariables false
set_option linter.unusedSimpArgs false
attribute [local go_sem] eql_elem

/-- A point, and whether it is none of the domain's. -/
def OutsOut (f : Int) (kk D : Nat) (y : Int) (w : World) (e : Ending) (w' : World) : Prop :=
  ((∃ i, i < D ∧ power (mul f) (rt f kk) i = redu f y) ∧ e = .returned (.tuple #[.agg #[.int .u64 (lo (redu f y)), .int .u64 (hi (redu f y))], .bool false]) ∧ Below w.heap.size w w') ∨
  ((∀ i, i < D → power (mul f) (rt f kk) i ≠ redu f y) ∧ e = .returned (.tuple #[.agg #[.int .u64 (lo (redu f y)), .int .u64 (hi (redu f y))], .bool true]) ∧ Below w.heap.size w w')
set_option maxRecDepth 20000 in
set_option maxHeartbeats 4000000 in
theorem outside_any (x : Ci) (h : x.Good) (kk D : Nat) (hkk : kk ≤ 10) (hD : D = 2 ^ kk) (hDp : D = pow2 (x.callsN + 1)) (y : Int) (y0 : 0 ≤ y) (y1 : y < 340282366920938463463374607431768211456) (w : World) (hT : Tabs w) :
    Calls Tryz.prog 21 #[cvl x, .agg #[.int .u64 (lo y), .int .u64 (hi y)]] w (OutsOut x.f kk D y w) := by
  have ft := ft_of h.f
  have hf0 : IntKind.i64.wrap x.f = x.f := by rcases h.f with e | e <;> rw [e] <;> rfl
  have hDo := Lib.hid (domain_any x h)
  have hOf := Lib.hid (of_any x.f y y0 y1)
  have hLg := Lib.hid (fun w hT => nlog_pow kk hkk w hT)
  have hPt := Lib.hid (fun w => npoints_any ft kk hkk w)
  have hD2 : D ≤ 1024 := by rw [hD]; exact two_le hkk
  unfold PtsOut powers at hPt
  rw [← hD] at hLg hPt
  unfold NumBy at hDo
  rw [← hDp] at hDo
  unfold cvl OutsOut at *
  obtain ⟨Q, hQ⟩ : ∃ Q, power (mul x.f) (rt x.f kk) = Q := ⟨_, rfl⟩
  rw [hQ] at hPt ⊢
  obtain ⟨z, hz⟩ : ∃ z, redu x.f y = z := ⟨_, rfl⟩
  rw [hz] at hOf ⊢
  replace hT := Lib.hid hT
  clear hQ hz ft hD hDp h y0 y1
  go_enter Tryz.func21, Tryz.ntmps21
  go_upto_region 1 with (fail)
  refine name_wp (fun w1 => Below w.heap.size w w1 ∧ w1.heap[w.heap.size]? = some (cobj x) ∧ Holds w1 (w.heap.size + 1) y ∧ Holds w1 (w.heap.size + 1 + 1) 0) ⟨(((Below.refl _ _).alloc (Nat.le_refl _) _).alloc (by simp) _).alloc (by simp; omega) _, alloc_keeps (alloc_keeps (alloc_at rfl)), alloc_keeps (alloc_at (by simp)), alloc_at (by simp)⟩ ?_
  rintro w1 ⟨hb, kc, ky, kr⟩
  obtain ⟨qr, hqr⟩ : ∃ qr, w.heap.size + 1 + 1 = qr := ⟨_, rfl⟩
  obtain ⟨qy, hqy⟩ : ∃ qy, w.heap.size + 1 = qy := ⟨_, rfl⟩
  rw [hqr] at kr ⊢
  rw [hqy] at ky ⊢
  have hne : Hid (qy ≠ qr) := Lib.hid (by omega)
  have hly : Hid (w.heap.size ≤ qy) := Lib.hid (by omega)
  have hlr : Hid (w.heap.size ≤ qr) := Lib.hid (by omega)
  have hnc : Hid (w.heap.size ≠ qy) := Lib.hid (by omega)
  clear hqr hqy
  obtain ⟨c0, c1, c2, c3, c4, c5⟩ := blk6z kc
  obtain ⟨s0, s1, s2, s3⟩ := blk2 ky
  go_wp2_with fail
  refine call_then (hOf.out _) ?_
  intro w2 hv
  replace hb := below_next hb hb.size hv
  replace kc := keeps hv kc
  replace ky := ky.up hv
  replace kr := kr.up hv
  clear hv c0 c1 c2 c3 c4 c5 s0 s1 s2 s3 hOf
  obtain ⟨s0, s1, s2, s3⟩ := blk2 ky
  have hb2 := Lib.hid (below_store2' hb hly.out (u := .int .u64 (lo z)) (v := .int .u64 (hi z)) (i := 0) (k := 1))
  have kc2 := Lib.hid (store2_farx kc hnc.out (u := .int .u64 (lo z)) (v := .int .u64 (hi z)) (i := 0) (j := 1))
  have ky2 := Lib.hid (ky.set z)
  have kr2 := Lib.hid (kr.far hne.out.symm (u := .int .u64 (lo z)) (v := .int .u64 (hi z)))
  clear hb kc ky kr
  go_upto_region 2 with (fail)
  refine name_wp (fun w1 => Below w.heap.size w w1 ∧ w1.heap[w.heap.size]? = some (cobj x) ∧ Holds w1 qy z ∧ Holds w1 qr 0) ⟨hb2.out, kc2.out, ky2.out, kr2.out⟩ ?_
  clear hb2 kc2 ky2 kr2 s0 s1 s2 s3
  rintro w3 ⟨hb, kc, ky, kr⟩
  obtain ⟨c0, c1, c2, c3, c4, c5⟩ := blk6z kc
  go_wp2_with fail
  refine call_then (hDo.out _) ?_
  intro w4 hv
  replace hb := below_next hb hb.size hv
  replace kc := keeps hv kc
  replace ky := ky.up hv
  replace kr := kr.up hv
  clear hv c0 c1 c2 c3 c4 c5 hDo
  obtain ⟨c0, c1, c2, c3, c4, c5⟩ := blk6z kc
  go_wp2_with fail
  refine call_then (hLg.out _ (hT.out.up hb)) ?_
  intro w5 hv
  replace hb := below_next hb hb.size hv
  replace kc := keeps hv kc
  replace ky := ky.up hv
  replace kr := kr.up hv
  clear hv c0 c1 c2 c3 c4 c5 hLg
  obtain ⟨c0, c1, c2, c3, c4, c5⟩ := blk6z kc
  go_wp2_with fail
  refine (hPt.out _).mono ?_
  rintro e w6 ⟨g, rfl, hv, hgl, hrow⟩
  replace hb := below_next hb hb.size hv
  replace ky := ky.up hv
  replace kr := kr.up hv
  clear hv c0 c1 c2 c3 c4 c5 hPt kc
  have hrow : Row w6 g (lst Q D) := hrow
  replace hb := Lib.hid hb
  replace ky := Lib.hid ky
  replace kr := Lib.hid kr
  replace hrow := Lib.hid hrow
  go_upto_region 5 with (fail)
  go_loopw [32] (fun i wr => ∃ j : Nat, i = .int .i64 (j : Int) ∧ j ≤ D ∧ Hid (Below w.heap.size w wr) ∧ Hid (Holds wr qy z) ∧ Hid (Holds wr qr 0) ∧ Hid (Row wr g (lst Q D)) ∧ Hid (∀ i, i < j → Q i ≠ z)) (fun i _ => D - (intOf i).toNat)
  case atStart => exact ⟨0, rfl, Nat.zero_le _, hb, ky, kr, hrow, Lib.hid (fun i hi => absurd hi (Nat.not_lt_zero _))⟩
  case round =>
    clear hb ky kr hrow
    obtain ⟨j, rfl, hj, hb, ky, kr, hrow, hno⟩ := hrel
    by_cases hlt : j < D
    · have j0 : (0 : Int) ≤ (j : Int) := by omega
      have j1 : (j : Int) < (D : Int) := by omega
      have p0 := hrow.out.lo (k := j) (by rw [lst_length]; exact hlt)
      have p1 := hrow.out.hi (k := j) (by rw [lst_length]; exact hlt)
      rw [lst_at Q hlt] at p0 p1
      obtain ⟨u, hu⟩ : ∃ u, Q j = u := ⟨_, rfl⟩
      rw [hu] at p0 p1
      replace hu := Lib.hid hu
      go_upto_region 7 with (fail)
      refine name_wp (fun w1 => Below w.heap.size w w1 ∧ Holds w1 qy z ∧ Holds w1 qr 0 ∧ Row w1 g (lst Q D) ∧ Holds w1 wr.heap.size u) ⟨hb.out.alloc hb.out.size _, ky.out.alloc _, kr.out.alloc _, hrow.out.alloc _, alloc_at rfl⟩ ?_
      clear hb ky kr hrow p0 p1
      rintro w7 ⟨hb, ky, kr, hrow, ku⟩
      obtain ⟨q, hq⟩ : ∃ q, wr.heap.size = q := ⟨_, rfl⟩
      rw [hq] at ku ⊢
      clear hq
      obtain ⟨s0, s1, -, -⟩ := blk2 ky
      obtain ⟨u0, u1, -, -⟩ := blk2 ku
      have heq : (lo u == lo z && hi u == hi z) = (u == z) := lohi_eq
      by_cases e : u = z
      · have e1 : (u == z) = true := by simpa using e
        rw [e1] at heq
        obtain ⟨t0, t1, t2, t3⟩ := blk2 kr
        have hb9 := below_store2' hb hlr.out (u := .int .u64 (lo z)) (v := .int .u64 (hi z)) (i := 0) (k := 1)
        have kr9 := kr.set z
        replace hb9 := Lib.hid hb9
        replace kr9 := Lib.hid kr9
        have hex : Hid (∃ i, i < D ∧ Q i = z) := Lib.hid ⟨j, hlt, hu.out.trans e⟩
        clear hb ky kr hrow ku e e1
        go_wp2
        obtain ⟨p2, q2, _, _⟩ := blk2 kr9.out
        exact bodyPost_ret (v := .tuple #[.agg #[.int .u64 (lo z), .int .u64 (hi z)], .bool false]) (by simp [results, Tryz.results21, go_sem, p2, q2]) rfl (.inl ⟨hex.out, rfl, hb9.out⟩)
      · have e1 : (u == z) = false := by simpa using e
        rw [e1] at heq
        have hno2 : Hid (∀ i, i < j + 1 → Q i ≠ z) := Lib.hid (fun i hi' => by
          by_cases e2 : i = j
          · rw [e2, hu.out]; exact e
          · exact hno.out i (by omega))
        replace hb := Lib.hid hb
        replace ky := Lib.hid ky
        replace kr := Lib.hid kr
        replace hrow := Lib.hid hrow
        clear ku e e1 hno
        go_wp2
        exact ⟨⟨j + 1, by first | rfl | go_num, by omega, hb, ky, kr, hrow, hno2⟩, by simp [intOf]; omega⟩
    · obtain rfl : D = j := by omega
      obtain ⟨s0, s1, -, -⟩ := blk2 ky.out
      obtain ⟨t0, t1, t2, t3⟩ := blk2 kr.out
      have hb9 := below_store2' hb.out hlr.out (u := .int .u64 (lo z)) (v := .int .u64 (hi z)) (i := 0) (k := 1)
      have kr9 := kr.out.set z
      replace hb9 := Lib.hid hb9
      replace kr9 := Lib.hid kr9
      clear hb ky kr hrow
      go_wp2
      obtain ⟨p2, q2, _, _⟩ := blk2 kr9.out
      exact bodyPost_ret (v := .tuple #[.agg #[.int .u64 (lo z), .int .u64 (hi z)], .bool true]) (by simp [results, Tryz.results21, go_sem, p2, q2]) rfl (.inr ⟨hno.out, rfl, hb9.out⟩)
end Go.Proofs.YtebgfelbffgnbaaGreatDoor
