/-
  What the document says of a vector's elements.
-/
import Derived.Test.YtgdokfchfgnbbaaGreatCmC
import Derived.Deep.Cut
import Derived.Deep.DeepCutAuto
import Derived.Deep.CutBlock
namespace Go.Proofs.YtgdokfchfgnbbaaGreat
open Go.RowKit Flow F
set_option linter.unusedVariables false
set_option linter.unusedSimpArgs false
attribute [local go_sem] eql_elem

theorem joint_at {x : Ci} (h : x.Good) (h2 : 2 ≤ x.k) {i : Nat} (hi : i < x.inN) : i / x.sizeN < x.jointN := by
  have hk5 := h.fits.k5
  by_cases hk : x.k = 2
  · have e1 : x.sizeN = x.b.toNat := by unfold Ci.sizeN; rw [if_pos hk]
    have e2 : x.jointN = 1 := by unfold Ci.jointN; rw [if_neg (by omega), if_pos hk]
    have e3 : x.inN = x.b.toNat := by unfold Ci.inN; rw [if_neg (by omega), if_pos hk]
    rw [e1, e2, Nat.div_eq_of_lt (by omega)]
    omega
  · have hC := h.fits.c (by omega)
    have e1 : x.sizeN = x.c.toNat := by unfold Ci.sizeN; rw [if_neg hk]
    have e2 : x.callsN ≤ x.jointN := by unfold Ci.jointN; rw [if_neg (by omega), if_neg hk]; split <;> omega
    have e3 : x.callsN = pieces x.inN x.c.toNat := by unfold Ci.callsN; rw [if_neg (by omega), if_neg hk]
    have e4 := (pieces_lt x.inN (i / x.c.toNat) (by omega)).1 (Nat.lt_of_le_of_lt (Nat.div_mul_le_self i x.c.toNat) hi)
    rw [e1]
    omega
theorem size_pos {x : Ci} (h : x.Good) (h2 : 2 ≤ x.k) : 1 ≤ x.sizeN := by
  have hk5 := h.fits.k5
  unfold Ci.sizeN
  by_cases hk : x.k = 2
  · rw [if_pos hk]
    have := h.fits.b (.inl hk)
    omega
  · rw [if_neg hk]
    have := h.fits.c (by omega)
    omega
theorem joint_le' {x : Ci} (h : x.Good) : x.jointN ≤ 512 := by
  have := h.calls
  have h1 : x.callsN ≤ 511 := by omega
  unfold Ci.jointN
  repeat (first | omega | split)
-- The loop over all elements.
set_option maxRecDepth 20000 in
set_option maxHeartbeats 8000000 in
theorem rdirect_2 (x : Ci) (h : x.Good) (hk : x.k = 2) (vs js : List Int) (A B : Option Addr) (N cp n cq : Nat) (hl : vs.length = N) (hN : N = x.inN) (hjl : js.length = n) (hn : n = x.jointN) (hcp : N ≤ cp) (hv : InF x.f vs) (hj : InF x.f js) (w : World) (hA : ElemsAt w A vs) (hB : ElemsAt w B js) :
    Calls Tryz.prog 14 #[rvl x, .slice A N cp, .slice B n cq] w fun e w' => e = .returned (.agg #[.int .u64 (lo (dirV x vs js)), .int .u64 (hi (dirV x vs js))]) ∧ Below w.heap.size w w' := by
  have hd : dirV x vs js = dS x.f x.sizeN vs js N := by unfold dirV; rw [if_neg (by omega), if_pos (by omega), hl]
  rw [hd]
  have hnn := joint_le' h
  rw [← hn] at hnn
  have hle := h.fits.in_le
  have hq0 := fun i (hi : i < x.inN) => joint_at h (by omega) hi
  have hst := fun i => dS_step (C := x.sizeN) hv hj i
  have hdb := fun i => dS_in x.f x.sizeN vs js i
  have hS1 := size_pos h (by omega)
  have hvo := hv.ok
  have hjo := hj.ok
  have hM := M_lt x.f
  have hD0 : dS x.f x.sizeN vs js 0 = 0 := by unfold dS; exact Int.zero_emod _
  rw [← hN] at hq0 hle
  rw [← hn] at hq0
  obtain ⟨D, hDe⟩ : ∃ D, dS x.f x.sizeN vs js = D := ⟨_, rfl⟩
  rw [hDe] at hst hdb hD0
  rw [hDe]
  obtain ⟨S, hS⟩ : ∃ S, x.sizeN = S := ⟨_, rfl⟩
  have hSb : x.b = (S : Int) := by
    rw [← hS]
    unfold Ci.sizeN
    have := h.fits.b
    have := h.fits.c
    rw [if_pos hk]; omega
  have hS3 : (S : Int) ≤ 32 := by
    rw [← hSb]
    have := h.fits.b
    have := h.fits.c
    omega
  rw [hS] at hst hq0 hS1
  obtain ⟨k, f, b, l, W, c⟩ := x
  simp only at hk hSb hst hdb hM
  subst hk hSb
  unfold rvl
  simp only
  clear h hN hn hv hj hd hS
  replace hst := Lib.hid hst
  replace hdb := Lib.hid hdb
  replace hq0 := Lib.hid hq0
  replace hvo := Lib.hid hvo
  replace hjo := Lib.hid hjo
  replace hl := Lib.hid hl
  replace hjl := Lib.hid hjl
  replace hA := Lib.hid hA
  replace hB := Lib.hid hB
  replace hDe := Lib.hid hDe
  go_enter Tryz.func14, Tryz.ntmps14
  go_upto_region 1 with (fail)
  refine name_wp (fun w1 => Below w.heap.size w w1 ∧ w1.heap[w.heap.size]? = some (.cells #[.int .i64 2, .int .i64 f, .int .i64 (S : Int), .int .i64 l, .int .i64 W, .int .i64 c] 47 (0, 0)) ∧ Holds w1 (w.heap.size + 1) 0) ⟨((Below.refl _ _).alloc (Nat.le_refl _) _).alloc (by simp) _, alloc_keeps (alloc_at rfl), alloc_at (by simp)⟩ ?_
  rintro w1 ⟨hb, k0, kr⟩
  obtain ⟨c0, c1, c2, c3, c4, c5⟩ := blk6 k0
  go_upto_region 4 with (fail)
  have h8 := Lib.hid (lt_of_get kr)
  refine name_wp (fun w2 => Dr w #[.int .i64 2, .int .i64 f, .int .i64 (S : Int), .int .i64 l, .int .i64 W, .int .i64 c] w1.heap.size 0 w2) ⟨(hb.alloc hb.size _).alloc (by have := hb.size; simp; omega) _, alloc_keeps (alloc_keeps k0), alloc_keeps (alloc_keeps kr), alloc_keeps (alloc_at rfl), alloc_at (by simp)⟩ ?_
  clear hb k0 kr c0 c1 c2 c3 c4 c5
  generalize w1.heap.size = p8 at *
  intro w2 H
  clear w1
  obtain ⟨c0, c1, c2, c3, c4, c5⟩ := blk6 H.k0
  go_upto_region 9 with (fail)
  clear c0 c1 c2 c3 c4 c5
  go_wp2
  rw [← hD0] at H
  have S0 : (0 : Int) < (S : Int) := by omega
  have S1 : (S : Int) ≠ 0 := by omega
  go_loopw [11] (fun i wr => ∃ j : Nat, j ≤ N ∧ i = .int .i64 (j : Int) ∧ Dr w #[.int .i64 2, .int .i64 f, .int .i64 (S : Int), .int .i64 l, .int .i64 W, .int .i64 c] p8 (D j) wr) (fun i _ => N - (intOf i).toNat)
  case atStart => exact ⟨0, Nat.zero_le _, rfl, H⟩
  case round =>
    clear H
    obtain ⟨j, hj, rfl, H⟩ := hrel
    by_cases hlt : j < N
    · have j1 : (j : Int) < (N : Int) := by omega
      have j0 : (0 : Int) ≤ (j : Int) := by omega
      obtain ⟨q, hq⟩ : ∃ q, j / S = q := ⟨_, rfl⟩
      have hqn : q < n := by rw [← hq]; exact hq0.out j hlt
      have hdv : (j : Int).tdiv (S : Int) = (q : Int) := by rw [← hq]; rfl
      have hdv2 : (j : Int) / (S : Int) = (q : Int) := by rw [← hq]; rfl
      have hqw : IntKind.i64.wrap (q : Int) = (q : Int) := wrap_i rfl (by omega)
      obtain ⟨m, hm⟩ : ∃ m, j % S = m := ⟨_, rfl⟩
      have hmS : m < S := by rw [← hm]; exact Nat.mod_lt _ (by omega)
      have hrm : (j : Int).tmod (S : Int) = (m : Int) := by rw [← hm]; rfl
      have hrm2 : (j : Int) % (S : Int) = (m : Int) := by rw [← hm]; rfl
      have hmw : IntKind.i64.wrap (m : Int) = (m : Int) := wrap_i rfl (by omega)
      have hst1 := hst.out j
      rw [hq, hm] at hst1
      replace hq := Lib.hid hq
      replace hm := Lib.hid hm
      have q0 : (0 : Int) ≤ (q : Int) := by omega
      have q1 : (q : Int) < (n : Int) := by omega
      obtain ⟨p2, o2, rfl, hc0, hc1⟩ := (hB.out.up H.hb) q (by rw [hjl.out]; exact hqn)
      have hr := hjo.out.at_ (k := q) (by rw [hjl.out]; exact hqn)
      generalize js.getD q 0 = r at *
      obtain ⟨c0, c1, c2, c3, c4, c5⟩ := blk6 H.k0
      go_upto_region 13 with (fail)
      clear c0 c1 c2 c3 c4 c5
      have h9 := Lib.hid (lt_of_get H.ko)
      have hvv := (Below.refl wr.heap.size wr).alloc (Nat.le_refl _) (.cells #[.int .u64 (lo r), .int .u64 (hi r)] 35)
      refine name_wp (fun w5 => Dr w #[.int .i64 2, .int .i64 f, .int .i64 (S : Int), .int .i64 l, .int .i64 W, .int .i64 c] p8 (D j) w5 ∧ Holds w5 wr.heap.size r) ⟨H.up hvv, alloc_at rfl⟩ ?_
      clear H hvv hc0 hc1
      generalize wr.heap.size = pr at *
      rintro w5 ⟨H, kr⟩
      obtain ⟨r0, r1, _, _⟩ := blk2 kr
      go_upto_region 14 with (fail)
      clear r0 r1
      have h10 := Lib.hid (lt_of_get kr)
      have hvv := (Below.refl w5.heap.size w5).alloc (Nat.le_refl _) (.cells #[.int .u64 (lo r), .int .u64 (hi r)] 35)
      refine name_wp (fun w6 => Dr w #[.int .i64 2, .int .i64 f, .int .i64 (S : Int), .int .i64 l, .int .i64 W, .int .i64 c] p8 (D j) w6 ∧ Holds w6 pr r ∧ Holds w6 w5.heap.size (pwr f r 0)) ⟨H.up hvv, kr.up hvv, alloc_at rfl⟩ ?_
      clear H hvv kr
      generalize w5.heap.size = pw at *
      rintro w6 ⟨H, kr, kw⟩
      go_wp2
      go_loopw [14] (fun i wr => ∃ t : Nat, t ≤ m ∧ i = .int .i64 (t : Int) ∧ Dr w #[.int .i64 2, .int .i64 f, .int .i64 (S : Int), .int .i64 l, .int .i64 W, .int .i64 c] p8 (D j) wr ∧ Holds wr pr r ∧ Holds wr pw (pwr f r t)) (fun i _ => m - (intOf i).toNat)
      case atStart => exact ⟨0, Nat.zero_le _, rfl, H, kr, kw⟩
      case round =>
        clear H kr kw
        obtain ⟨t, ht, rfl, H, kr, kw⟩ := hrel
        have hP := pwr_ok (f := f) hr t
        by_cases hltm : t < m
        · have t0 : (0 : Int) ≤ (t : Int) := by omega
          have t1 : (t : Int) < (m : Int) := by omega
          have hm1 := fun w => mul_any f (pwr f r t) r hP.1 hP.2 hr.1 hr.2 w
          rw [show mul f (pwr f r t) r = pwr f r (t + 1) from rfl] at hm1
          obtain ⟨y, hy⟩ : ∃ y, pwr f r (t + 1) = y := ⟨_, rfl⟩
          rw [hy] at hm1
          replace hm1 := Lib.hid hm1
          generalize pwr f r t = z at *
          obtain ⟨r0, r1, _, _⟩ := blk2 kr
          obtain ⟨s0, s1, _, _⟩ := blk2 kw
          replace hy := Lib.hid hy
          go_wp2_with fail
          refine call_then (hm1.out _) ?_
          intro w7 hv7
          replace H := H.up hv7
          replace kr := kr.up hv7
          replace kw := kw.up hv7
          clear hv7 r0 r1 s0 s1
          obtain ⟨s0, s1, s2, s3⟩ := blk2 kw
          have H7 := H.far h8.out (p := pw) (by have := h9.out; have := h10.out; omega) (.int .u64 (lo y)) (.int .u64 (hi y))
          have kr7 := kr.far (show pr ≠ pw by have := h10.out; omega) (u := .int .u64 (lo y)) (v := .int .u64 (hi y))
          have kw7 := kw.set y
          clear H kr kw
          go_wp2
          exact ⟨⟨t + 1, by omega, by go_num, H7, kr7, by rw [hy.out]; exact kw7⟩, by simp [intOf]; omega⟩
        · obtain rfl : m = t := by omega
          have t1 : ¬ (m : Int) < (m : Int) := by omega
          obtain ⟨p, o, rfl, hc0, hc1⟩ := (hA.out.up H.hb) j (by rw [hl.out]; exact hlt)
          have hz := hvo.out.at_ (k := j) (by rw [hl.out]; exact hlt)
          generalize vs.getD j 0 = z at *
          generalize pwr f r m = P at *
          have hsb := sub_bound f z 1
          have hxb := mul_bound f z (sub f z 1)
          have hyb := mul_bound f P (mul f z (sub f z 1))
          have hDb := hdb.out j
          have hs1 := Lib.hid (fun w => sub_any f z 1 hz.1 hz.2 (by omega) (by omega) w)
          have hm1 := fun w => mul_any f z (sub f z 1) hz.1 hz.2 hsb.1 (by omega) w
          have hm2 := fun w => mul_any f P (mul f z (sub f z 1)) hP.1 hP.2 hxb.1 (by omega) w
          have ha1 := fun w => add_any f (D j) (mul f P (mul f z (sub f z 1))) hDb.1 (by omega) hyb.1 (by omega) w
          rw [hst1] at ha1
          generalize sub f z 1 = s at *
          obtain ⟨x1, hx1⟩ : ∃ x1, mul f z s = x1 := ⟨_, rfl⟩
          rw [hx1] at hm1 hm2 ha1
          obtain ⟨y1, hy1⟩ : ∃ y1, mul f P x1 = y1 := ⟨_, rfl⟩
          rw [hy1] at hm2 ha1
          obtain ⟨E, hE⟩ : ∃ E, D (j + 1) = E := ⟨_, rfl⟩
          rw [hE] at ha1
          obtain ⟨G, hG⟩ : ∃ G, D j = G := ⟨_, rfl⟩
          rw [hG] at ha1 H
          replace hm1 := Lib.hid hm1
          replace hm2 := Lib.hid hm2
          replace ha1 := Lib.hid ha1
          replace hE := Lib.hid hE
          replace hG := Lib.hid hG
          clear hst1 hx1 hy1 hsb hxb hyb hDb hP hz
          go_upto_region 18 with (fail)
          refine wp_region_flow2 13 _ (.cells #[.int .u64 0, .int .u64 0] 35 (0, 0)) (by kernel_rfl) (by kernel_rfl) (by kernel_rfl) rfl rfl (fun _ _ => by simp [go_sem]) ?_
          apply Exists.intro
          refine ⟨fun ι _ φ hφ => ?_, fun w8 bb hv8 hbb kb => ?_⟩
          · have q4 := fun i => hφ.cell hc0 i
            have q5 := fun i => hφ.cell hc1 i
            obtain ⟨a0, a1⟩ := hφ.two H.k1
            simp only [List.take_succ_cons, List.take_zero]
            repeat (go_big_quiet_step ((first
              | (go_at_call 37; with_reducible exact flow_call hφ (hm1.out _))
              | (go_at_call 36; with_reducible exact flow_call hφ (hs1.out _)))))
            exact wpQuiet_nil rfl
          have h11 := Lib.hid (lt_of_get kw)
          replace H := H.up hv8
          replace kw := kw.up hv8
          clear hv8 hc0 hc1 kr
          simp only [List.drop_succ_cons, List.drop_zero, Act.put]
          have kb' : Holds w8 bb 0 := kb
          obtain ⟨e0, e1, e2, e3⟩ := blk2 kb'
          go_upto_region 19 with (fail)
          have hbw : pw < bb := by have := h11.out; omega
          refine name_wp (fun w9 => Dr w #[.int .i64 2, .int .i64 f, .int .i64 (S : Int), .int .i64 l, .int .i64 W, .int .i64 c] p8 G w9 ∧ Holds w9 pw P ∧ Holds w9 bb x1) ⟨H.far h8.out (by have := h9.out; have := h10.out; omega) _ _, kw.far (by omega), kb'.set x1⟩ ?_
          clear H kw kb kb' e0 e1 e2 e3 hbb
          rintro w9 ⟨H, kw, kb⟩
          refine wp_region_flow1 7 (by kernel_rfl) (by kernel_rfl) (by kernel_rfl) ?_
          apply Exists.intro
          refine ⟨fun ι _ φ hφ => ?_, fun wt hwt => ?_⟩
          · obtain ⟨a0, a1⟩ := hφ.two H.ko
            obtain ⟨a2, a3⟩ := hφ.two kw
            obtain ⟨a4, a5⟩ := hφ.two kb
            simp only [List.take_succ_cons, List.take_zero]
            repeat (go_big_quiet_step ((first
              | (go_at_call 37; with_reducible exact flow_call hφ (hm2.out _))
              | (go_at_call 38; with_reducible exact flow_call hφ (ha1.out _)))))
            exact wpQuiet_nil rfl
          replace H := H.up hwt
          clear hwt kw kb
          simp only [List.drop_succ_cons, List.drop_zero]
          obtain ⟨e0, e1, e2, e3⟩ := blk2 H.ko
          have H9 := H.out h8.out E
          clear H
          go_wp2
          exact ⟨⟨j + 1, by omega, by go_num, by rw [hE.out]; exact H9⟩, by simp [intOf]; omega⟩
    · obtain rfl : N = j := by omega
      have j1 : ¬ (N : Int) < (N : Int) := by omega
      obtain ⟨E, hE⟩ : ∃ E, D N = E := ⟨_, rfl⟩
      rw [hE] at H
      replace hE := Lib.hid hE
      obtain ⟨c0, c1, c2, c3, c4, c5⟩ := blk6 H.k0
      obtain ⟨s0, s1, s2, s3⟩ := blk2 H.kr
      obtain ⟨t0, t1, t2, t3⟩ := blk2 H.ko
      go_wp2
      obtain ⟨z0, z1, _, _⟩ := blk2 (H.kr.set E)
      exact bodyPost_ret (v := .agg #[.int .u64 (lo E), .int .u64 (hi E)]) (by simp [results, Tryz.results14, go_sem, z0, z1]) rfl ⟨by rw [hE.out], below_store2 H.hb (by omega)⟩
set_option maxRecDepth 20000 in
set_option maxHeartbeats 8000000 in
theorem rdirect_3 (x : Ci) (h : x.Good) (hk : x.k = 3) (vs js : List Int) (A B : Option Addr) (N cp n cq : Nat) (hl : vs.length = N) (hN : N = x.inN) (hjl : js.length = n) (hn : n = x.jointN) (hcp : N ≤ cp) (hv : InF x.f vs) (hj : InF x.f js) (w : World) (hA : ElemsAt w A vs) (hB : ElemsAt w B js) :
    Calls Tryz.prog 14 #[rvl x, .slice A N cp, .slice B n cq] w fun e w' => e = .returned (.agg #[.int .u64 (lo (dirV x vs js)), .int .u64 (hi (dirV x vs js))]) ∧ Below w.heap.size w w' := by
  have hd : dirV x vs js = dS x.f x.sizeN vs js N := by unfold dirV; rw [if_neg (by omega), if_pos (by omega), hl]
  rw [hd]
  have hnn := joint_le' h
  rw [← hn] at hnn
  have hle := h.fits.in_le
  have hq0 := fun i (hi : i < x.inN) => joint_at h (by omega) hi
  have hst := fun i => dS_step (C := x.sizeN) hv hj i
  have hdb := fun i => dS_in x.f x.sizeN vs js i
  have hS1 := size_pos h (by omega)
  have hvo := hv.ok
  have hjo := hj.ok
  have hM := M_lt x.f
  have hD0 : dS x.f x.sizeN vs js 0 = 0 := by unfold dS; exact Int.zero_emod _
  rw [← hN] at hq0 hle
  rw [← hn] at hq0
  obtain ⟨D, hDe⟩ : ∃ D, dS x.f x.sizeN vs js = D := ⟨_, rfl⟩
  rw [hDe] at hst hdb hD0
  rw [hDe]
  obtain ⟨S, hS⟩ : ∃ S, x.sizeN = S := ⟨_, rfl⟩
  have hSb : x.c = (S : Int) := by
    rw [← hS]
    unfold Ci.sizeN
    have := h.fits.b
    have := h.fits.c
    rw [if_neg (by omega)]; omega
  have hS3 : (S : Int) ≤ 32 := by
    rw [← hSb]
    have := h.fits.b
    have := h.fits.c
    omega
  rw [hS] at hst hq0 hS1
  obtain ⟨k, f, b, l, W, c⟩ := x
  simp only at hk hSb hst hdb hM
  subst hk hSb
  unfold rvl
  simp only
  clear h hN hn hv hj hd hS
  replace hst := Lib.hid hst
  replace hdb := Lib.hid hdb
  replace hq0 := Lib.hid hq0
  replace hvo := Lib.hid hvo
  replace hjo := Lib.hid hjo
  replace hl := Lib.hid hl
  replace hjl := Lib.hid hjl
  replace hA := Lib.hid hA
  replace hB := Lib.hid hB
  replace hDe := Lib.hid hDe
  go_enter Tryz.func14, Tryz.ntmps14
  go_upto_region 1 with (fail)
  refine name_wp (fun w1 => Below w.heap.size w w1 ∧ w1.heap[w.heap.size]? = some (.cells #[.int .i64 3, .int .i64 f, .int .i64 b, .int .i64 l, .int .i64 W, .int .i64 (S : Int)] 47 (0, 0)) ∧ Holds w1 (w.heap.size + 1) 0) ⟨((Below.refl _ _).alloc (Nat.le_refl _) _).alloc (by simp) _, alloc_keeps (alloc_at rfl), alloc_at (by simp)⟩ ?_
  rintro w1 ⟨hb, k0, kr⟩
  obtain ⟨c0, c1, c2, c3, c4, c5⟩ := blk6 k0
  go_upto_region 4 with (fail)
  have h8 := Lib.hid (lt_of_get kr)
  refine name_wp (fun w2 => Dr w #[.int .i64 3, .int .i64 f, .int .i64 b, .int .i64 l, .int .i64 W, .int .i64 (S : Int)] w1.heap.size 0 w2) ⟨(hb.alloc hb.size _).alloc (by have := hb.size; simp; omega) _, alloc_keeps (alloc_keeps k0), alloc_keeps (alloc_keeps kr), alloc_keeps (alloc_at rfl), alloc_at (by simp)⟩ ?_
  clear hb k0 kr c0 c1 c2 c3 c4 c5
  generalize w1.heap.size = p8 at *
  intro w2 H
  clear w1
  obtain ⟨c0, c1, c2, c3, c4, c5⟩ := blk6 H.k0
  go_upto_region 9 with (fail)
  clear c0 c1 c2 c3 c4 c5
  go_wp2
  rw [← hD0] at H
  have S0 : (0 : Int) < (S : Int) := by omega
  have S1 : (S : Int) ≠ 0 := by omega
  go_loopw [11] (fun i wr => ∃ j : Nat, j ≤ N ∧ i = .int .i64 (j : Int) ∧ Dr w #[.int .i64 3, .int .i64 f, .int .i64 b, .int .i64 l, .int .i64 W, .int .i64 (S : Int)] p8 (D j) wr) (fun i _ => N - (intOf i).toNat)
  case atStart => exact ⟨0, Nat.zero_le _, rfl, H⟩
  case round =>
    clear H
    obtain ⟨j, hj, rfl, H⟩ := hrel
    by_cases hlt : j < N
    · have j1 : (j : Int) < (N : Int) := by omega
      have j0 : (0 : Int) ≤ (j : Int) := by omega
      obtain ⟨q, hq⟩ : ∃ q, j / S = q := ⟨_, rfl⟩
      have hqn : q < n := by rw [← hq]; exact hq0.out j hlt
      have hdv : (j : Int).tdiv (S : Int) = (q : Int) := by rw [← hq]; rfl
      have hdv2 : (j : Int) / (S : Int) = (q : Int) := by rw [← hq]; rfl
      have hqw : IntKind.i64.wrap (q : Int) = (q : Int) := wrap_i rfl (by omega)
      obtain ⟨m, hm⟩ : ∃ m, j % S = m := ⟨_, rfl⟩
      have hmS : m < S := by rw [← hm]; exact Nat.mod_lt _ (by omega)
      have hrm : (j : Int).tmod (S : Int) = (m : Int) := by rw [← hm]; rfl
      have hrm2 : (j : Int) % (S : Int) = (m : Int) := by rw [← hm]; rfl
      have hmw : IntKind.i64.wrap (m : Int) = (m : Int) := wrap_i rfl (by omega)
      have hst1 := hst.out j
      rw [hq, hm] at hst1
      replace hq := Lib.hid hq
      replace hm := Lib.hid hm
      have q0 : (0 : Int) ≤ (q : Int) := by omega
      have q1 : (q : Int) < (n : Int) := by omega
      obtain ⟨p2, o2, rfl, hc0, hc1⟩ := (hB.out.up H.hb) q (by rw [hjl.out]; exact hqn)
      have hr := hjo.out.at_ (k := q) (by rw [hjl.out]; exact hqn)
      generalize js.getD q 0 = r at *
      obtain ⟨c0, c1, c2, c3, c4, c5⟩ := blk6 H.k0
      go_upto_region 13 with (fail)
      clear c0 c1 c2 c3 c4 c5
      have h9 := Lib.hid (lt_of_get H.ko)
      have hvv := (Below.refl wr.heap.size wr).alloc (Nat.le_refl _) (.cells #[.int .u64 (lo r), .int .u64 (hi r)] 35)
      refine name_wp (fun w5 => Dr w #[.int .i64 3, .int .i64 f, .int .i64 b, .int .i64 l, .int .i64 W, .int .i64 (S : Int)] p8 (D j) w5 ∧ Holds w5 wr.heap.size r) ⟨H.up hvv, alloc_at rfl⟩ ?_
      clear H hvv hc0 hc1
      generalize wr.heap.size = pr at *
      rintro w5 ⟨H, kr⟩
      obtain ⟨r0, r1, _, _⟩ := blk2 kr
      go_upto_region 14 with (fail)
      clear r0 r1
      have h10 := Lib.hid (lt_of_get kr)
      have hvv := (Below.refl w5.heap.size w5).alloc (Nat.le_refl _) (.cells #[.int .u64 (lo r), .int .u64 (hi r)] 35)
      refine name_wp (fun w6 => Dr w #[.int .i64 3, .int .i64 f, .int .i64 b, .int .i64 l, .int .i64 W, .int .i64 (S : Int)] p8 (D j) w6 ∧ Holds w6 pr r ∧ Holds w6 w5.heap.size (pwr f r 0)) ⟨H.up hvv, kr.up hvv, alloc_at rfl⟩ ?_
      clear H hvv kr
      generalize w5.heap.size = pw at *
      rintro w6 ⟨H, kr, kw⟩
      go_wp2
      go_loopw [14] (fun i wr => ∃ t : Nat, t ≤ m ∧ i = .int .i64 (t : Int) ∧ Dr w #[.int .i64 3, .int .i64 f, .int .i64 b, .int .i64 l, .int .i64 W, .int .i64 (S : Int)] p8 (D j) wr ∧ Holds wr pr r ∧ Holds wr pw (pwr f r t)) (fun i _ => m - (intOf i).toNat)
      case atStart => exact ⟨0, Nat.zero_le _, rfl, H, kr, kw⟩
      case round =>
        clear H kr kw
        obtain ⟨t, ht, rfl, H, kr, kw⟩ := hrel
        have hP := pwr_ok (f := f) hr t
        by_cases hltm : t < m
        · have t0 : (0 : Int) ≤ (t : Int) := by omega
          have t1 : (t : Int) < (m : Int) := by omega
          have hm1 := fun w => mul_any f (pwr f r t) r hP.1 hP.2 hr.1 hr.2 w
          rw [show mul f (pwr f r t) r = pwr f r (t + 1) from rfl] at hm1
          obtain ⟨y, hy⟩ : ∃ y, pwr f r (t + 1) = y := ⟨_, rfl⟩
          rw [hy] at hm1
          replace hm1 := Lib.hid hm1
          generalize pwr f r t = z at *
          obtain ⟨r0, r1, _, _⟩ := blk2 kr
          obtain ⟨s0, s1, _, _⟩ := blk2 kw
          replace hy := Lib.hid hy
          go_wp2_with fail
          refine call_then (hm1.out _) ?_
          intro w7 hv7
          replace H := H.up hv7
          replace kr := kr.up hv7
          replace kw := kw.up hv7
          clear hv7 r0 r1 s0 s1
          obtain ⟨s0, s1, s2, s3⟩ := blk2 kw
          have H7 := H.far h8.out (p := pw) (by have := h9.out; have := h10.out; omega) (.int .u64 (lo y)) (.int .u64 (hi y))
          have kr7 := kr.far (show pr ≠ pw by have := h10.out; omega) (u := .int .u64 (lo y)) (v := .int .u64 (hi y))
          have kw7 := kw.set y
          clear H kr kw
          go_wp2
          exact ⟨⟨t + 1, by omega, by go_num, H7, kr7, by rw [hy.out]; exact kw7⟩, by simp [intOf]; omega⟩
        · obtain rfl : m = t := by omega
          have t1 : ¬ (m : Int) < (m : Int) := by omega
          obtain ⟨p, o, rfl, hc0, hc1⟩ := (hA.out.up H.hb) j (by rw [hl.out]; exact hlt)
          have hz := hvo.out.at_ (k := j) (by rw [hl.out]; exact hlt)
          generalize vs.getD j 0 = z at *
          generalize pwr f r m = P at *
          have hsb := sub_bound f z 1
          have hxb := mul_bound f z (sub f z 1)
          have hyb := mul_bound f P (mul f z (sub f z 1))
          have hDb := hdb.out j
          have hs1 := Lib.hid (fun w => sub_any f z 1 hz.1 hz.2 (by omega) (by omega) w)
          have hm1 := fun w => mul_any f z (sub f z 1) hz.1 hz.2 hsb.1 (by omega) w
          have hm2 := fun w => mul_any f P (mul f z (sub f z 1)) hP.1 hP.2 hxb.1 (by omega) w
          have ha1 := fun w => add_any f (D j) (mul f P (mul f z (sub f z 1))) hDb.1 (by omega) hyb.1 (by omega) w
          rw [hst1] at ha1
          generalize sub f z 1 = s at *
          obtain ⟨x1, hx1⟩ : ∃ x1, mul f z s = x1 := ⟨_, rfl⟩
          rw [hx1] at hm1 hm2 ha1
          obtain ⟨y1, hy1⟩ : ∃ y1, mul f P x1 = y1 := ⟨_, rfl⟩
          rw [hy1] at hm2 ha1
          obtain ⟨E, hE⟩ : ∃ E, D (j + 1) = E := ⟨_, rfl⟩
          rw [hE] at ha1
          obtain ⟨G, hG⟩ : ∃ G, D j = G := ⟨_, rfl⟩
          rw [hG] at ha1 H
          replace hm1 := Lib.hid hm1
          replace hm2 := Lib.hid hm2
          replace ha1 := Lib.hid ha1
          replace hE := Lib.hid hE
          replace hG := Lib.hid hG
          clear hst1 hx1 hy1 hsb hxb hyb hDb hP hz
          go_upto_region 18 with (fail)
          refine wp_region_flow2 13 _ (.cells #[.int .u64 0, .int .u64 0] 35 (0, 0)) (by kernel_rfl) (by kernel_rfl) (by kernel_rfl) rfl rfl (fun _ _ => by simp [go_sem]) ?_
          apply Exists.intro
          refine ⟨fun ι _ φ hφ => ?_, fun w8 bb hv8 hbb kb => ?_⟩
          · have q4 := fun i => hφ.cell hc0 i
            have q5 := fun i => hφ.cell hc1 i
            obtain ⟨a0, a1⟩ := hφ.two H.k1
            simp only [List.take_succ_cons, List.take_zero]
            repeat (go_big_quiet_step ((first
              | (go_at_call 37; with_reducible exact flow_call hφ (hm1.out _))
              | (go_at_call 36; with_reducible exact flow_call hφ (hs1.out _)))))
            exact wpQuiet_nil rfl
          have h11 := Lib.hid (lt_of_get kw)
          replace H := H.up hv8
          replace kw := kw.up hv8
          clear hv8 hc0 hc1 kr
          simp only [List.drop_succ_cons, List.drop_zero, Act.put]
          have kb' : Holds w8 bb 0 := kb
          obtain ⟨e0, e1, e2, e3⟩ := blk2 kb'
          go_upto_region 19 with (fail)
          have hbw : pw < bb := by have := h11.out; omega
          refine name_wp (fun w9 => Dr w #[.int .i64 3, .int .i64 f, .int .i64 b, .int .i64 l, .int .i64 W, .int .i64 (S : Int)] p8 G w9 ∧ Holds w9 pw P ∧ Holds w9 bb x1) ⟨H.far h8.out (by have := h9.out; have := h10.out; omega) _ _, kw.far (by omega), kb'.set x1⟩ ?_
          clear H kw kb kb' e0 e1 e2 e3 hbb
          rintro w9 ⟨H, kw, kb⟩
          refine wp_region_flow1 7 (by kernel_rfl) (by kernel_rfl) (by kernel_rfl) ?_
          apply Exists.intro
          refine ⟨fun ι _ φ hφ => ?_, fun wt hwt => ?_⟩
          · obtain ⟨a0, a1⟩ := hφ.two H.ko
            obtain ⟨a2, a3⟩ := hφ.two kw
            obtain ⟨a4, a5⟩ := hφ.two kb
            simp only [List.take_succ_cons, List.take_zero]
            repeat (go_big_quiet_step ((first
              | (go_at_call 37; with_reducible exact flow_call hφ (hm2.out _))
              | (go_at_call 38; with_reducible exact flow_call hφ (ha1.out _)))))
            exact wpQuiet_nil rfl
          replace H := H.up hwt
          clear hwt kw kb
          simp only [List.drop_succ_cons, List.drop_zero]
          obtain ⟨e0, e1, e2, e3⟩ := blk2 H.ko
          have H9 := H.out h8.out E
          clear H
          go_wp2
          exact ⟨⟨j + 1, by omega, by go_num, by rw [hE.out]; exact H9⟩, by simp [intOf]; omega⟩
    · obtain rfl : N = j := by omega
      have j1 : ¬ (N : Int) < (N : Int) := by omega
      obtain ⟨E, hE⟩ : ∃ E, D N = E := ⟨_, rfl⟩
      rw [hE] at H
      replace hE := Lib.hid hE
      obtain ⟨c0, c1, c2, c3, c4, c5⟩ := blk6 H.k0
      obtain ⟨s0, s1, s2, s3⟩ := blk2 H.kr
      obtain ⟨t0, t1, t2, t3⟩ := blk2 H.ko
      go_wp2
      obtain ⟨z0, z1, _, _⟩ := blk2 (H.kr.set E)
      exact bodyPost_ret (v := .agg #[.int .u64 (lo E), .int .u64 (hi E)]) (by simp [results, Tryz.results14, go_sem, z0, z1]) rfl ⟨by rw [hE.out], below_store2 H.hb (by omega)⟩
end Go.Proofs.YtgdokfchfgnbbaaGreat
