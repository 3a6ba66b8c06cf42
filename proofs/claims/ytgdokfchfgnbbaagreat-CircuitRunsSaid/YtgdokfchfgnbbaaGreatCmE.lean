/-
  What the document says of a vector whose elements' sum matters.
-/
import Derived.Test.YtgdokfchfgnbbaaGreatCmD
import Derived.Test.YtgdokfchfgnbbaaGreatDL
import Derived.Deep.Cut
import Derived.Deep.DeepCutAuto
import Derived.Deep.CutBlock
namespace Go.Proofs.YtgdokfchfgnbbaaGreat
open Go.RowKit Flow F
set_option linter.unusedVariables false
set_option linter.unusedSimpArgs false
attribute [local go_sem] eql_elem

theorem sumF_take (f : Int) {xs : List Int} {k : Nat} (h : k < xs.length) : add f (sumF f (xs.take k)) (xs.getD k 0) = sumF f (xs.take (k + 1)) := by
  rw [take_snocD h, sumF_snoc]
theorem joint_pos {x : Ci} (h : x.Good) (h4 : 4 ≤ x.k) : 1 ≤ x.jointN := by
  unfold Ci.jointN
  rw [if_neg (by omega), if_neg (by omega), if_neg (by omega)]
  omega
-- The sum of the first elements.
-- The last sum.
set_option maxRecDepth 20000 in
set_option maxHeartbeats 8000000 in
theorem rdirect_4 (x : Ci) (h : x.Good) (hk : x.k = 4) (vs js : List Int) (A B : Option Addr) (N cp n cq : Nat) (hl : vs.length = N) (hN : N = x.inN) (hjl : js.length = n) (hn : n = x.jointN) (hcp : N ≤ cp) (hv : InF x.f vs) (hj : InF x.f js) (w : World) (hA : ElemsAt w A vs) (hB : ElemsAt w B js) :
    Calls Tryz.prog 14 #[rvl x, .slice A N cp, .slice B n cq] w fun e w' => e = .returned (.agg #[.int .u64 (lo (dirV x vs js)), .int .u64 (hi (dirV x vs js))]) ∧ Below w.heap.size w w' := by
  have hd : dirV x vs js = add x.f (dS x.f x.sizeN vs js N) (mul x.f (js.getD (n - 1) 0) (sub x.f (sumF x.f (vs.take x.l.toNat)) 1)) := by unfold dirV restV; rw [if_neg (by omega), if_neg (by omega), if_pos hk, hl, hn]
  rw [hd]
  have hn1 := joint_pos h (by omega)
  rw [← hn] at hn1
  have hnn := joint_le' h
  rw [← hn] at hnn
  have hle := h.fits.in_le
  have hq0 := fun i (hi : i < x.inN) => joint_at h (by omega) hi
  have hst := fun i => dS_step (C := x.sizeN) hv hj i
  have hdb := fun i => dS_in x.f x.sizeN vs js i
  have hS1 := size_pos h (by omega)
  have hvo := hv.ok
  have hjo := hj.ok
  have hM := M_lt x.f
  have hD0 : dS x.f x.sizeN vs js 0 = 0 := by unfold dS; exact Int.zero_emod _
  rw [← hN] at hq0 hle
  rw [← hn] at hq0
  obtain ⟨D, hDe⟩ : ∃ D, dS x.f x.sizeN vs js = D := ⟨_, rfl⟩
  rw [hDe] at hst hdb hD0
  obtain ⟨S, hS⟩ : ∃ S, x.sizeN = S := ⟨_, rfl⟩
  have hSb : x.c = (S : Int) := by
    rw [← hS]
    unfold Ci.sizeN
    have := h.fits.c (by omega)
    rw [if_neg (by omega)]; omega
  have hS3 : (S : Int) ≤ 32 := by
    rw [← hSb]
    have := h.fits.c (by omega)
    omega
  rw [hS] at hst hq0 hS1
  obtain ⟨tl, hnt⟩ : ∃ tl, n = tl + 1 := ⟨n - 1, by omega⟩
  have hnt1 : n - 1 = tl := by omega
  have hzl := hjo.at_ (k := tl) (by omega)
  obtain ⟨zl, hzle⟩ : ∃ zl, js.getD tl 0 = zl := ⟨_, rfl⟩
  rw [hzle] at hzl
  have t0 : (0 : Int) ≤ (tl : Int) := by omega
  have t1 : (tl : Int) < (n : Int) := by omega
  have ztl : IntKind.i64.wrap ((n : Int) - 1) = (tl : Int) := wrap_i (by omega) (by omega)
  rw [hDe, hnt1, hzle]
  have hL := h.fits.l (by omega)
  obtain ⟨nl, hnl⟩ := Int.eq_ofNat_of_zero_le (show 0 ≤ x.l by omega)
  have hNe : nl ≤ N := by rw [hN]; unfold Ci.inN; rw [if_neg (by omega), if_neg (by omega), if_neg (by omega), if_pos hk, hnl]; simp
  obtain ⟨k, f, b, l, W, c⟩ := x
  simp only at hk hSb hst hdb hM hnl hL
  subst hk hSb hnl
  unfold rvl
  simp only [Int.toNat_natCast]
  obtain ⟨Z, hZ⟩ : ∃ Z, add f (D N) (mul f zl (sub f (sumF f (vs.take nl)) 1)) = Z := ⟨_, rfl⟩
  rw [hZ]
  replace hZ := Lib.hid hZ
  replace hzl := Lib.hid hzl
  replace hnt := Lib.hid hnt
  replace hzle := Lib.hid hzle
  have hL6 : nl ≤ 64 := by omega
  clear h hN hn hv hj hd hS hnt1 hL
  replace hst := Lib.hid hst
  replace hdb := Lib.hid hdb
  replace hq0 := Lib.hid hq0
  replace hvo := Lib.hid hvo
  replace hjo := Lib.hid hjo
  replace hl := Lib.hid hl
  replace hjl := Lib.hid hjl
  replace hA := Lib.hid hA
  replace hB := Lib.hid hB
  replace hDe := Lib.hid hDe
  go_enter Tryz.func14, Tryz.ntmps14
  go_upto_region 1 with (fail)
  refine name_wp (fun w1 => Below w.heap.size w w1 ∧ w1.heap[w.heap.size]? = some (.cells #[.int .i64 4, .int .i64 f, .int .i64 b, .int .i64 (nl : Int), .int .i64 W, .int .i64 (S : Int)] 47 (0, 0)) ∧ Holds w1 (w.heap.size + 1) 0) ⟨((Below.refl _ _).alloc (Nat.le_refl _) _).alloc (by simp) _, alloc_keeps (alloc_at rfl), alloc_at (by simp)⟩ ?_
  rintro w1 ⟨hb, k0, kr⟩
  obtain ⟨c0, c1, c2, c3, c4, c5⟩ := blk6 k0
  go_upto_region 4 with (fail)
  have h8 := Lib.hid (lt_of_get kr)
  refine name_wp (fun w2 => Dr w #[.int .i64 4, .int .i64 f, .int .i64 b, .int .i64 (nl : Int), .int .i64 W, .int .i64 (S : Int)] w1.heap.size 0 w2) ⟨(hb.alloc hb.size _).alloc (by have := hb.size; simp; omega) _, alloc_keeps (alloc_keeps k0), alloc_keeps (alloc_keeps kr), alloc_keeps (alloc_at rfl), alloc_at (by simp)⟩ ?_
  clear hb k0 kr c0 c1 c2 c3 c4 c5
  generalize w1.heap.size = p8 at *
  intro w2 H
  clear w1
  obtain ⟨c0, c1, c2, c3, c4, c5⟩ := blk6 H.k0
  go_upto_region 9 with (fail)
  clear c0 c1 c2 c3 c4 c5
  go_wp2
  rw [← hD0] at H
  have S0 : (0 : Int) < (S : Int) := by omega
  have S1 : (S : Int) ≠ 0 := by omega
  go_loopw [11] (fun i wr => ∃ j : Nat, j ≤ N ∧ i = .int .i64 (j : Int) ∧ Dr w #[.int .i64 4, .int .i64 f, .int .i64 b, .int .i64 (nl : Int), .int .i64 W, .int .i64 (S : Int)] p8 (D j) wr) (fun i _ => N - (intOf i).toNat)
  case atStart => exact ⟨0, Nat.zero_le _, rfl, H⟩
  case round =>
    clear H
    obtain ⟨j, hj, rfl, H⟩ := hrel
    by_cases hlt : j < N
    · have j1 : (j : Int) < (N : Int) := by omega
      have j0 : (0 : Int) ≤ (j : Int) := by omega
      obtain ⟨q, hq⟩ : ∃ q, j / S = q := ⟨_, rfl⟩
      have hqn : q < n := by rw [← hq]; exact hq0.out j hlt
      have hdv : (j : Int).tdiv (S : Int) = (q : Int) := by rw [← hq]; rfl
      have hdv2 : (j : Int) / (S : Int) = (q : Int) := by rw [← hq]; rfl
      have hqw : IntKind.i64.wrap (q : Int) = (q : Int) := wrap_i rfl (by omega)
      obtain ⟨m, hm⟩ : ∃ m, j % S = m := ⟨_, rfl⟩
      have hmS : m < S := by rw [← hm]; exact Nat.mod_lt _ (by omega)
      have hrm : (j : Int).tmod (S : Int) = (m : Int) := by rw [← hm]; rfl
      have hrm2 : (j : Int) % (S : Int) = (m : Int) := by rw [← hm]; rfl
      have hmw : IntKind.i64.wrap (m : Int) = (m : Int) := wrap_i rfl (by omega)
      have hst1 := hst.out j
      rw [hq, hm] at hst1
      replace hq := Lib.hid hq
      replace hm := Lib.hid hm
      have q0 : (0 : Int) ≤ (q : Int) := by omega
      have q1 : (q : Int) < (n : Int) := by omega
      obtain ⟨p2, o2, rfl, hc0, hc1⟩ := (hB.out.up H.hb) q (by rw [hjl.out]; exact hqn)
      have hr := hjo.out.at_ (k := q) (by rw [hjl.out]; exact hqn)
      generalize js.getD q 0 = r at *
      obtain ⟨c0, c1, c2, c3, c4, c5⟩ := blk6 H.k0
      go_upto_region 13 with (fail)
      clear c0 c1 c2 c3 c4 c5
      have h9 := Lib.hid (lt_of_get H.ko)
      have hvv := (Below.refl wr.heap.size wr).alloc (Nat.le_refl _) (.cells #[.int .u64 (lo r), .int .u64 (hi r)] 35)
      refine name_wp (fun w5 => Dr w #[.int .i64 4, .int .i64 f, .int .i64 b, .int .i64 (nl : Int), .int .i64 W, .int .i64 (S : Int)] p8 (D j) w5 ∧ Holds w5 wr.heap.size r) ⟨H.up hvv, alloc_at rfl⟩ ?_
      clear H hvv hc0 hc1
      generalize wr.heap.size = pr at *
      rintro w5 ⟨H, kr⟩
      obtain ⟨r0, r1, _, _⟩ := blk2 kr
      go_upto_region 14 with (fail)
      clear r0 r1
      have h10 := Lib.hid (lt_of_get kr)
      have hvv := (Below.refl w5.heap.size w5).alloc (Nat.le_refl _) (.cells #[.int .u64 (lo r), .int .u64 (hi r)] 35)
      refine name_wp (fun w6 => Dr w #[.int .i64 4, .int .i64 f, .int .i64 b, .int .i64 (nl : Int), .int .i64 W, .int .i64 (S : Int)] p8 (D j) w6 ∧ Holds w6 pr r ∧ Holds w6 w5.heap.size (pwr f r 0)) ⟨H.up hvv, kr.up hvv, alloc_at rfl⟩ ?_
      clear H hvv kr
      generalize w5.heap.size = pw at *
      rintro w6 ⟨H, kr, kw⟩
      go_wp2
      go_loopw [14] (fun i wr => ∃ t : Nat, t ≤ m ∧ i = .int .i64 (t : Int) ∧ Dr w #[.int .i64 4, .int .i64 f, .int .i64 b, .int .i64 (nl : Int), .int .i64 W, .int .i64 (S : Int)] p8 (D j) wr ∧ Holds wr pr r ∧ Holds wr pw (pwr f r t)) (fun i _ => m - (intOf i).toNat)
      case atStart => exact ⟨0, Nat.zero_le _, rfl, H, kr, kw⟩
      case round =>
        clear H kr kw
        obtain ⟨t, ht, rfl, H, kr, kw⟩ := hrel
        have hP := pwr_ok (f := f) hr t
        by_cases hltm : t < m
        · have t0 : (0 : Int) ≤ (t : Int) := by omega
          have t1 : (t : Int) < (m : Int) := by omega
          have hm1 := fun w => mul_any f (pwr f r t) r hP.1 hP.2 hr.1 hr.2 w
          rw [show mul f (pwr f r t) r = pwr f r (t + 1) from rfl] at hm1
          obtain ⟨y, hy⟩ : ∃ y, pwr f r (t + 1) = y := ⟨_, rfl⟩
          rw [hy] at hm1
          replace hm1 := Lib.hid hm1
          generalize pwr f r t = z at *
          obtain ⟨r0, r1, _, _⟩ := blk2 kr
          obtain ⟨s0, s1, _, _⟩ := blk2 kw
          replace hy := Lib.hid hy
          go_wp2_with fail
          refine call_then (hm1.out _) ?_
          intro w7 hv7
          replace H := H.up hv7
          replace kr := kr.up hv7
          replace kw := kw.up hv7
          clear hv7 r0 r1 s0 s1
          obtain ⟨s0, s1, s2, s3⟩ := blk2 kw
          have H7 := H.far h8.out (p := pw) (by have := h9.out; have := h10.out; omega) (.int .u64 (lo y)) (.int .u64 (hi y))
          have kr7 := kr.far (show pr ≠ pw by have := h10.out; omega) (u := .int .u64 (lo y)) (v := .int .u64 (hi y))
          have kw7 := kw.set y
          clear H kr kw
          go_wp2
          exact ⟨⟨t + 1, by omega, by go_num, H7, kr7, by rw [hy.out]; exact kw7⟩, by simp [intOf]; omega⟩
        · obtain rfl : m = t := by omega
          have t1 : ¬ (m : Int) < (m : Int) := by omega
          obtain ⟨p, o, rfl, hc0, hc1⟩ := (hA.out.up H.hb) j (by rw [hl.out]; exact hlt)
          have hz := hvo.out.at_ (k := j) (by rw [hl.out]; exact hlt)
          generalize vs.getD j 0 = z at *
          generalize pwr f r m = P at *
          have hsb := sub_bound f z 1
          have hxb := mul_bound f z (sub f z 1)
          have hyb := mul_bound f P (mul f z (sub f z 1))
          have hDb := hdb.out j
          have hs1 := Lib.hid (fun w => sub_any f z 1 hz.1 hz.2 (by omega) (by omega) w)
          have hm1 := fun w => mul_any f z (sub f z 1) hz.1 hz.2 hsb.1 (by omega) w
          have hm2 := fun w => mul_any f P (mul f z (sub f z 1)) hP.1 hP.2 hxb.1 (by omega) w
          have ha1 := fun w => add_any f (D j) (mul f P (mul f z (sub f z 1))) hDb.1 (by omega) hyb.1 (by omega) w
          rw [hst1] at ha1
          generalize sub f z 1 = s at *
          obtain ⟨x1, hx1⟩ : ∃ x1, mul f z s = x1 := ⟨_, rfl⟩
          rw [hx1] at hm1 hm2 ha1
          obtain ⟨y1, hy1⟩ : ∃ y1, mul f P x1 = y1 := ⟨_, rfl⟩
          rw [hy1] at hm2 ha1
          obtain ⟨E, hE⟩ : ∃ E, D (j + 1) = E := ⟨_, rfl⟩
          rw [hE] at ha1
          obtain ⟨G, hG⟩ : ∃ G, D j = G := ⟨_, rfl⟩
          rw [hG] at ha1 H
          replace hm1 := Lib.hid hm1
          replace hm2 := Lib.hid hm2
          replace ha1 := Lib.hid ha1
          replace hE := Lib.hid hE
          replace hG := Lib.hid hG
          clear hst1 hx1 hy1 hsb hxb hyb hDb hP hz
          go_upto_region 18 with (fail)
          refine wp_region_flow2 13 _ (.cells #[.int .u64 0, .int .u64 0] 35 (0, 0)) (by kernel_rfl) (by kernel_rfl) (by kernel_rfl) rfl rfl (fun _ _ => by simp [go_sem]) ?_
          apply Exists.intro
          refine ⟨fun ι _ φ hφ => ?_, fun w8 bb hv8 hbb kb => ?_⟩
          · have q4 := fun i => hφ.cell hc0 i
            have q5 := fun i => hφ.cell hc1 i
            obtain ⟨a0, a1⟩ := hφ.two H.k1
            simp only [List.take_succ_cons, List.take_zero]
            repeat (go_big_quiet_step ((first
              | (go_at_call 37; with_reducible exact flow_call hφ (hm1.out _))
              | (go_at_call 36; with_reducible exact flow_call hφ (hs1.out _)))))
            exact wpQuiet_nil rfl
          have h11 := Lib.hid (lt_of_get kw)
          replace H := H.up hv8
          replace kw := kw.up hv8
          clear hv8 hc0 hc1 kr
          simp only [List.drop_succ_cons, List.drop_zero, Act.put]
          have kb' : Holds w8 bb 0 := kb
          obtain ⟨e0, e1, e2, e3⟩ := blk2 kb'
          go_upto_region 19 with (fail)
          have hbw : pw < bb := by have := h11.out; omega
          refine name_wp (fun w9 => Dr w #[.int .i64 4, .int .i64 f, .int .i64 b, .int .i64 (nl : Int), .int .i64 W, .int .i64 (S : Int)] p8 G w9 ∧ Holds w9 pw P ∧ Holds w9 bb x1) ⟨H.far h8.out (by have := h9.out; have := h10.out; omega) _ _, kw.far (by omega), kb'.set x1⟩ ?_
          clear H kw kb kb' e0 e1 e2 e3 hbb
          rintro w9 ⟨H, kw, kb⟩
          refine wp_region_flow1 7 (by kernel_rfl) (by kernel_rfl) (by kernel_rfl) ?_
          apply Exists.intro
          refine ⟨fun ι _ φ hφ => ?_, fun wt hwt => ?_⟩
          · obtain ⟨a0, a1⟩ := hφ.two H.ko
            obtain ⟨a2, a3⟩ := hφ.two kw
            obtain ⟨a4, a5⟩ := hφ.two kb
            simp only [List.take_succ_cons, List.take_zero]
            repeat (go_big_quiet_step ((first
              | (go_at_call 37; with_reducible exact flow_call hφ (hm2.out _))
              | (go_at_call 38; with_reducible exact flow_call hφ (ha1.out _)))))
            exact wpQuiet_nil rfl
          replace H := H.up hwt
          clear hwt kw kb
          simp only [List.drop_succ_cons, List.drop_zero]
          obtain ⟨e0, e1, e2, e3⟩ := blk2 H.ko
          have H9 := H.out h8.out E
          clear H
          go_wp2
          exact ⟨⟨j + 1, by omega, by go_num, by rw [hE.out]; exact H9⟩, by simp [intOf]; omega⟩
    · obtain rfl : N = j := by omega
      have j1 : ¬ (N : Int) < (N : Int) := by omega
      obtain ⟨E, hE⟩ : ∃ E, D N = E := ⟨_, rfl⟩
      have hEb := hdb.out N
      rw [hE] at H hEb
      replace hE := Lib.hid hE
      obtain ⟨c0, c1, c2, c3, c4, c5⟩ := blk6 H.k0
      go_upto_region 23 with (fail)
      clear c0 c1 c2 c3 c4 c5
      have h9 := Lib.hid (lt_of_get H.ko)
      have hvv := (Below.refl wr.heap.size wr).alloc (Nat.le_refl _) (.cells #[.int .u64 0, .int .u64 0] 35)
      refine name_wp (fun w5 => Dr w #[.int .i64 4, .int .i64 f, .int .i64 b, .int .i64 (nl : Int), .int .i64 W, .int .i64 (S : Int)] p8 E w5 ∧ Holds w5 wr.heap.size (sumF f (vs.take 0))) ⟨H.up hvv, alloc_at rfl⟩ ?_
      clear H hvv
      generalize wr.heap.size = ps at *
      rintro w5 ⟨H, ks⟩
      go_wp2
      go_loopw [17] (fun i wr => ∃ t : Nat, t ≤ nl ∧ i = .int .i64 (t : Int) ∧ Dr w #[.int .i64 4, .int .i64 f, .int .i64 b, .int .i64 (nl : Int), .int .i64 W, .int .i64 (S : Int)] p8 E wr ∧ Holds wr ps (sumF f (vs.take t))) (fun i _ => nl - (intOf i).toNat)
      case atStart => exact ⟨0, Nat.zero_le _, rfl, H, ks⟩
      case round =>
        clear H ks
        obtain ⟨t, ht, rfl, H, ks⟩ := hrel
        obtain ⟨c0, c1, c2, c3, c4, c5⟩ := blk6 H.k0
        by_cases hltt : t < nl
        · have t1 : (t : Int) < (nl : Int) := by omega
          have t0 : (0 : Int) ≤ (t : Int) := by omega
          have tN : (t : Int) < (N : Int) := by omega
          obtain ⟨p, o, rfl, hc0, hc1⟩ := (hA.out.up H.hb) t (by rw [hl.out]; omega)
          have hz := hvo.out.at_ (k := t) (by rw [hl.out]; omega)
          have hsb := sumF_bound f (vs.take t)
          have hsx := sumF_take f (xs := vs) (k := t) (by rw [hl.out]; omega)
          generalize vs.getD t 0 = z at *
          have ha1 := fun w => add_any f (sumF f (vs.take t)) z hsb.1 (by omega) hz.1 hz.2 w
          rw [hsx] at ha1
          obtain ⟨Y, hY⟩ : ∃ Y, sumF f (vs.take (t + 1)) = Y := ⟨_, rfl⟩
          rw [hY] at ha1
          generalize sumF f (vs.take t) = X at *
          replace ha1 := Lib.hid ha1
          replace hY := Lib.hid hY
          clear hz hsb hsx
          go_upto_region 26 with (fail)
          clear c0 c1 c2 c3 c4 c5
          refine wp_region_flow1 7 (by kernel_rfl) (by kernel_rfl) (by kernel_rfl) ?_
          apply Exists.intro
          refine ⟨fun ι _ φ hφ => ?_, fun wt hwt => ?_⟩
          · obtain ⟨a0, a1⟩ := hφ.two ks
            have q4 := fun i => hφ.cell hc0 i
            have q5 := fun i => hφ.cell hc1 i
            simp only [List.take_succ_cons, List.take_zero]
            repeat (go_big_quiet_step ((go_at_call 38; with_reducible exact flow_call hφ (ha1.out _))))
            exact wpQuiet_nil rfl
          replace H := H.up hwt
          replace ks := ks.up hwt
          clear hwt hc0 hc1
          simp only [List.drop_succ_cons, List.drop_zero]
          obtain ⟨e0, e1, e2, e3⟩ := blk2 ks
          have H9 := H.far h8.out (p := ps) (by have := h9.out; omega) (.int .u64 (lo Y)) (.int .u64 (hi Y))
          have k9 := ks.set Y
          clear H ks
          go_wp2
          exact ⟨⟨t + 1, by omega, by go_num, H9, by rw [hY.out]; exact k9⟩, by simp [intOf]; omega⟩
        · obtain rfl : nl = t := by omega
          have t1' : ¬ (nl : Int) < (nl : Int) := by omega
          have hsb := sumF_bound f (vs.take nl)
          obtain ⟨Y, hY⟩ : ∃ Y, sumF f (vs.take nl) = Y := ⟨_, rfl⟩
          rw [hY] at ks hsb
          have hs1 := Lib.hid (fun w => sub_any f Y 1 hsb.1 (by omega) (by omega) (by omega) w)
          have hrb := sub_bound f Y 1
          obtain ⟨R, hR⟩ : ∃ R, sub f Y 1 = R := ⟨_, rfl⟩
          rw [hR] at hs1 hrb
          have hmb := mul_bound f zl R
          have hm9 := fun w => mul_any f zl R hzl.out.1 hzl.out.2 hrb.1 (by omega) w
          have ha9 := fun w => add_any f E (mul f zl R) hEb.1 (by omega) hmb.1 (by omega) w
          have hZ' := hZ.out
          rw [hE.out, hY, hR] at hZ'
          rw [hZ'] at ha9
          generalize mul f zl R = mv at *
          replace hm9 := Lib.hid hm9
          replace ha9 := Lib.hid ha9
          replace hY := Lib.hid hY
          replace hR := Lib.hid hR
          clear hZ' hsb hrb hmb
          obtain ⟨e0, e1, e2, e3⟩ := blk2 ks
          obtain ⟨d0, d1, _, _⟩ := blk2 H.k1
          rw [show lo 1 = 1 from rfl] at d0
          rw [show hi 1 = 0 from rfl] at d1
          have hs1' := hs1.out
          rw [show lo 1 = 1 from rfl, show hi 1 = 0 from rfl] at hs1'
          replace hs1' := Lib.hid hs1'
          go_wp2_with fail
          refine call_then (hs1'.out _) ?_
          intro w6 hv6
          replace H := H.up hv6
          replace ks := ks.up hv6
          clear hv6 e0 e1 e2 e3 d0 d1 c0 c1 c2 c3 c4 c5 hs1 hs1'
          obtain ⟨e0, e1, e2, e3⟩ := blk2 ks
          go_upto_region 31 with (fail)
          refine name_wp (fun w9 => Dr w #[.int .i64 4, .int .i64 f, .int .i64 b, .int .i64 (nl : Int), .int .i64 W, .int .i64 (S : Int)] p8 E w9 ∧ Holds w9 ps R) ⟨H.far h8.out (by have := h9.out; omega) _ _, ks.set R⟩ ?_
          clear H ks e0 e1 e2 e3
          rintro w9 ⟨H, ks⟩
          obtain ⟨p2, o2, rfl, hc0, hc1⟩ := (hB.out.up H.hb) tl (by rw [hjl.out, hnt.out]; omega)
          rw [hzle.out] at hc0 hc1
          refine wp_region_flow1 12 (by kernel_rfl) (by kernel_rfl) (by kernel_rfl) ?_
          apply Exists.intro
          refine ⟨fun ι _ φ hφ => ?_, fun wt hwt => ?_⟩
          · obtain ⟨a0, a1⟩ := hφ.two H.ko
            obtain ⟨a2, a3⟩ := hφ.two ks
            have q4 := fun i => hφ.cell hc0 i
            have q5 := fun i => hφ.cell hc1 i
            simp only [List.take_succ_cons, List.take_zero]
            repeat (go_big_quiet_step ((first
              | (go_at_call 37; with_reducible exact flow_call hφ (hm9.out _))
              | (go_at_call 38; with_reducible exact flow_call hφ (ha9.out _)))))
            exact wpQuiet_nil rfl
          replace H := H.up hwt
          clear hwt hc0 hc1 ks
          simp only [List.drop_succ_cons, List.drop_zero]
          obtain ⟨s0, s1, s2, s3⟩ := blk2 H.kr
          go_wp2
          obtain ⟨z0, z1, _, _⟩ := blk2 (H.kr.set Z)
          exact bodyPost_ret (v := .agg #[.int .u64 (lo Z), .int .u64 (hi Z)]) (by simp [results, Tryz.results14, go_sem, z0, z1]) rfl ⟨rfl, below_store2 H.hb (by omega)⟩
theorem bits_pos : ∀ W : Fin 65, 1 ≤ W.val → 1 ≤ Lib.bitLen W.val := by decide +kernel
set_option maxRecDepth 20000 in
set_option maxHeartbeats 8000000 in
theorem rdirect_5 (x : Ci) (h : x.Good) (hk : x.k = 5) (vs js : List Int) (A B : Option Addr) (N cp n cq : Nat) (hl : vs.length = N) (hN : N = x.inN) (hjl : js.length = n) (hn : n = x.jointN) (hcp : N ≤ cp) (hv : InF x.f vs) (hj : InF x.f js) (w : World) (hA : ElemsAt w A vs) (hB : ElemsAt w B js) :
    Calls Tryz.prog 14 #[rvl x, .slice A N cp, .slice B n cq] w fun e w' => e = .returned (.agg #[.int .u64 (lo (dirV x vs js)), .int .u64 (hi (dirV x vs js))]) ∧ Below w.heap.size w w' := by
  have hd : dirV x vs js = add x.f (dS x.f x.sizeN vs js N) (mul x.f (js.getD (n - 1) 0) (sub x.f (add x.f (sumF x.f (vs.take x.l.toNat)) (offN x.w.toNat : Int)) (numF x.f (vs.drop x.l.toNat)))) := by unfold dirV restV; rw [if_neg (by omega), if_neg (by omega), if_neg (by omega), hl, hn]
  rw [hd]
  have hn1 := joint_pos h (by omega)
  rw [← hn] at hn1
  have hnn := joint_le' h
  rw [← hn] at hnn
  have hle := h.fits.in_le
  have hq0 := fun i (hi : i < x.inN) => joint_at h (by omega) hi
  have hst := fun i => dS_step (C := x.sizeN) hv hj i
  have hdb := fun i => dS_in x.f x.sizeN vs js i
  have hS1 := size_pos h (by omega)
  have hvo := hv.ok
  have hjo := hj.ok
  have hM := M_lt x.f
  have hD0 : dS x.f x.sizeN vs js 0 = 0 := by unfold dS; exact Int.zero_emod _
  rw [← hN] at hq0 hle
  rw [← hn] at hq0
  obtain ⟨D, hDe⟩ : ∃ D, dS x.f x.sizeN vs js = D := ⟨_, rfl⟩
  rw [hDe] at hst hdb hD0
  obtain ⟨S, hS⟩ : ∃ S, x.sizeN = S := ⟨_, rfl⟩
  have hSb : x.c = (S : Int) := by
    rw [← hS]
    unfold Ci.sizeN
    have := h.fits.c (by omega)
    rw [if_neg (by omega)]; omega
  have hS3 : (S : Int) ≤ 32 := by
    rw [← hSb]
    have := h.fits.c (by omega)
    omega
  rw [hS] at hst hq0 hS1
  obtain ⟨tl, hnt⟩ : ∃ tl, n = tl + 1 := ⟨n - 1, by omega⟩
  have hnt1 : n - 1 = tl := by omega
  have hzl := hjo.at_ (k := tl) (by omega)
  obtain ⟨zl, hzle⟩ : ∃ zl, js.getD tl 0 = zl := ⟨_, rfl⟩
  rw [hzle] at hzl
  have t0 : (0 : Int) ≤ (tl : Int) := by omega
  have t1 : (tl : Int) < (n : Int) := by omega
  have ztl : IntKind.i64.wrap ((n : Int) - 1) = (tl : Int) := wrap_i (by omega) (by omega)
  rw [hDe, hnt1, hzle]
  have hL := h.fits.l (by omega)
  have hW5 := h.fits.w hk
  obtain ⟨nl, hnl⟩ := Int.eq_ofNat_of_zero_le (show 0 ≤ x.l by omega)
  obtain ⟨nW, hnW⟩ := Int.eq_ofNat_of_zero_le (show 0 ≤ x.w by omega)
  have hb1 := bits_pos ⟨nW, by omega⟩ (by simp only; omega)
  simp only at hb1
  have hNb : N = nl + Lib.bitLen nW := by rw [hN]; unfold Ci.inN; rw [if_neg (by omega), if_neg (by omega), if_neg (by omega), if_neg (by omega), hnl, hnW]; simp
  have hNe : nl < N := by omega
  have hole := offN_le (W := nW) (by omega)
  have hxf := h.f
  have hnum := fun C w hA => rnumber_any x.f hxf (vs.drop nl) C (N - nl) (cp - nl) (by rw [List.length_drop]; omega) (by omega) (fun y hy => hvo y (List.mem_of_mem_drop hy)) w hA
  have hof := fun w => roffset_any x.k x.f x.b x.l x.c nW (by omega) w
  obtain ⟨k, f, b, l, W, c⟩ := x
  simp only at hk hSb hst hdb hM hnl hL hnW hnum hof
  subst hk hSb hnl hnW
  unfold rvl
  simp only [Int.toNat_natCast]
  have hV := numF_bound f (vs.drop nl)
  obtain ⟨V, hVe⟩ : ∃ V, numF f (vs.drop nl) = V := ⟨_, rfl⟩
  rw [hVe] at hV hnum ⊢
  obtain ⟨O, hO⟩ : ∃ O : Nat, offN nW = O := ⟨_, rfl⟩
  rw [hO] at hof hole ⊢
  obtain ⟨Z, hZ⟩ : ∃ Z, add f (D N) (mul f zl (sub f (add f (sumF f (vs.take nl)) (O : Int)) V)) = Z := ⟨_, rfl⟩
  rw [hZ]
  have hoi : lo (O : Int) = (O : Int) := by unfold lo; omega
  have hoh : hi (O : Int) = 0 := by unfold hi; omega
  have hLc : (nl : Int) ≤ (cp : Int) := by omega
  have hLc0 : (0 : Int) ≤ (nl : Int) := by omega
  have hLcN : (nl : Int) ≤ (N : Int) := by omega
  have hcL : ¬ cp = nl := by omega
  have hLc2 : ¬ nl = cp := by omega
  have hOw : IntKind.u64.wrap (O : Int) = (O : Int) := by rw [IntKind.wrap_u64]; omega
  replace hZ := Lib.hid hZ
  replace hzl := Lib.hid hzl
  replace hnt := Lib.hid hnt
  replace hzle := Lib.hid hzle
  replace hnum := Lib.hid hnum
  replace hof := Lib.hid hof
  replace hV := Lib.hid hV
  replace hoi := Lib.hid hoi
  replace hoh := Lib.hid hoh
  clear h hN hn hv hj hd hS hnt1 hL hW5 hb1 hNb hVe hO
  replace hst := Lib.hid hst
  replace hdb := Lib.hid hdb
  replace hq0 := Lib.hid hq0
  replace hvo := Lib.hid hvo
  replace hjo := Lib.hid hjo
  replace hl := Lib.hid hl
  replace hjl := Lib.hid hjl
  replace hA := Lib.hid hA
  replace hB := Lib.hid hB
  replace hDe := Lib.hid hDe
  go_enter Tryz.func14, Tryz.ntmps14
  go_upto_region 1 with (fail)
  refine name_wp (fun w1 => Below w.heap.size w w1 ∧ w1.heap[w.heap.size]? = some (.cells #[.int .i64 5, .int .i64 f, .int .i64 b, .int .i64 (nl : Int), .int .i64 (nW : Int), .int .i64 (S : Int)] 47 (0, 0)) ∧ Holds w1 (w.heap.size + 1) 0) ⟨((Below.refl _ _).alloc (Nat.le_refl _) _).alloc (by simp) _, alloc_keeps (alloc_at rfl), alloc_at (by simp)⟩ ?_
  rintro w1 ⟨hb, k0, kr⟩
  obtain ⟨c0, c1, c2, c3, c4, c5⟩ := blk6 k0
  go_upto_region 4 with (fail)
  have h8 := Lib.hid (lt_of_get kr)
  refine name_wp (fun w2 => Dr w #[.int .i64 5, .int .i64 f, .int .i64 b, .int .i64 (nl : Int), .int .i64 (nW : Int), .int .i64 (S : Int)] w1.heap.size 0 w2) ⟨(hb.alloc hb.size _).alloc (by have := hb.size; simp; omega) _, alloc_keeps (alloc_keeps k0), alloc_keeps (alloc_keeps kr), alloc_keeps (alloc_at rfl), alloc_at (by simp)⟩ ?_
  clear hb k0 kr c0 c1 c2 c3 c4 c5
  generalize w1.heap.size = p8 at *
  intro w2 H
  clear w1
  obtain ⟨c0, c1, c2, c3, c4, c5⟩ := blk6 H.k0
  go_upto_region 9 with (fail)
  clear c0 c1 c2 c3 c4 c5
  go_wp2
  rw [← hD0] at H
  have S0 : (0 : Int) < (S : Int) := by omega
  have S1 : (S : Int) ≠ 0 := by omega
  go_loopw [11] (fun i wr => ∃ j : Nat, j ≤ N ∧ i = .int .i64 (j : Int) ∧ Dr w #[.int .i64 5, .int .i64 f, .int .i64 b, .int .i64 (nl : Int), .int .i64 (nW : Int), .int .i64 (S : Int)] p8 (D j) wr) (fun i _ => N - (intOf i).toNat)
  case atStart => exact ⟨0, Nat.zero_le _, rfl, H⟩
  case round =>
    clear H
    obtain ⟨j, hj, rfl, H⟩ := hrel
    by_cases hlt : j < N
    · have j1 : (j : Int) < (N : Int) := by omega
      have j0 : (0 : Int) ≤ (j : Int) := by omega
      obtain ⟨q, hq⟩ : ∃ q, j / S = q := ⟨_, rfl⟩
      have hqn : q < n := by rw [← hq]; exact hq0.out j hlt
      have hdv : (j : Int).tdiv (S : Int) = (q : Int) := by rw [← hq]; rfl
      have hdv2 : (j : Int) / (S : Int) = (q : Int) := by rw [← hq]; rfl
      have hqw : IntKind.i64.wrap (q : Int) = (q : Int) := wrap_i rfl (by omega)
      obtain ⟨m, hm⟩ : ∃ m, j % S = m := ⟨_, rfl⟩
      have hmS : m < S := by rw [← hm]; exact Nat.mod_lt _ (by omega)
      have hrm : (j : Int).tmod (S : Int) = (m : Int) := by rw [← hm]; rfl
      have hrm2 : (j : Int) % (S : Int) = (m : Int) := by rw [← hm]; rfl
      have hmw : IntKind.i64.wrap (m : Int) = (m : Int) := wrap_i rfl (by omega)
      have hst1 := hst.out j
      rw [hq, hm] at hst1
      replace hq := Lib.hid hq
      replace hm := Lib.hid hm
      have q0 : (0 : Int) ≤ (q : Int) := by omega
      have q1 : (q : Int) < (n : Int) := by omega
      obtain ⟨p2, o2, rfl, hc0, hc1⟩ := (hB.out.up H.hb) q (by rw [hjl.out]; exact hqn)
      have hr := hjo.out.at_ (k := q) (by rw [hjl.out]; exact hqn)
      generalize js.getD q 0 = r at *
      obtain ⟨c0, c1, c2, c3, c4, c5⟩ := blk6 H.k0
      go_upto_region 13 with (fail)
      clear c0 c1 c2 c3 c4 c5
      have h9 := Lib.hid (lt_of_get H.ko)
      have hvv := (Below.refl wr.heap.size wr).alloc (Nat.le_refl _) (.cells #[.int .u64 (lo r), .int .u64 (hi r)] 35)
      refine name_wp (fun w5 => Dr w #[.int .i64 5, .int .i64 f, .int .i64 b, .int .i64 (nl : Int), .int .i64 (nW : Int), .int .i64 (S : Int)] p8 (D j) w5 ∧ Holds w5 wr.heap.size r) ⟨H.up hvv, alloc_at rfl⟩ ?_
      clear H hvv hc0 hc1
      generalize wr.heap.size = pr at *
      rintro w5 ⟨H, kr⟩
      obtain ⟨r0, r1, _, _⟩ := blk2 kr
      go_upto_region 14 with (fail)
      clear r0 r1
      have h10 := Lib.hid (lt_of_get kr)
      have hvv := (Below.refl w5.heap.size w5).alloc (Nat.le_refl _) (.cells #[.int .u64 (lo r), .int .u64 (hi r)] 35)
      refine name_wp (fun w6 => Dr w #[.int .i64 5, .int .i64 f, .int .i64 b, .int .i64 (nl : Int), .int .i64 (nW : Int), .int .i64 (S : Int)] p8 (D j) w6 ∧ Holds w6 pr r ∧ Holds w6 w5.heap.size (pwr f r 0)) ⟨H.up hvv, kr.up hvv, alloc_at rfl⟩ ?_
      clear H hvv kr
      generalize w5.heap.size = pw at *
      rintro w6 ⟨H, kr, kw⟩
      go_wp2
      go_loopw [14] (fun i wr => ∃ t : Nat, t ≤ m ∧ i = .int .i64 (t : Int) ∧ Dr w #[.int .i64 5, .int .i64 f, .int .i64 b, .int .i64 (nl : Int), .int .i64 (nW : Int), .int .i64 (S : Int)] p8 (D j) wr ∧ Holds wr pr r ∧ Holds wr pw (pwr f r t)) (fun i _ => m - (intOf i).toNat)
      case atStart => exact ⟨0, Nat.zero_le _, rfl, H, kr, kw⟩
      case round =>
        clear H kr kw
        obtain ⟨t, ht, rfl, H, kr, kw⟩ := hrel
        have hP := pwr_ok (f := f) hr t
        by_cases hltm : t < m
        · have t0 : (0 : Int) ≤ (t : Int) := by omega
          have t1 : (t : Int) < (m : Int) := by omega
          have hm1 := fun w => mul_any f (pwr f r t) r hP.1 hP.2 hr.1 hr.2 w
          rw [show mul f (pwr f r t) r = pwr f r (t + 1) from rfl] at hm1
          obtain ⟨y, hy⟩ : ∃ y, pwr f r (t + 1) = y := ⟨_, rfl⟩
          rw [hy] at hm1
          replace hm1 := Lib.hid hm1
          generalize pwr f r t = z at *
          obtain ⟨r0, r1, _, _⟩ := blk2 kr
          obtain ⟨s0, s1, _, _⟩ := blk2 kw
          replace hy := Lib.hid hy
          go_wp2_with fail
          refine call_then (hm1.out _) ?_
          intro w7 hv7
          replace H := H.up hv7
          replace kr := kr.up hv7
          replace kw := kw.up hv7
          clear hv7 r0 r1 s0 s1
          obtain ⟨s0, s1, s2, s3⟩ := blk2 kw
          have H7 := H.far h8.out (p := pw) (by have := h9.out; have := h10.out; omega) (.int .u64 (lo y)) (.int .u64 (hi y))
          have kr7 := kr.far (show pr ≠ pw by have := h10.out; omega) (u := .int .u64 (lo y)) (v := .int .u64 (hi y))
          have kw7 := kw.set y
          clear H kr kw
          go_wp2
          exact ⟨⟨t + 1, by omega, by go_num, H7, kr7, by rw [hy.out]; exact kw7⟩, by simp [intOf]; omega⟩
        · obtain rfl : m = t := by omega
          have t1 : ¬ (m : Int) < (m : Int) := by omega
          obtain ⟨p, o, rfl, hc0, hc1⟩ := (hA.out.up H.hb) j (by rw [hl.out]; exact hlt)
          have hz := hvo.out.at_ (k := j) (by rw [hl.out]; exact hlt)
          generalize vs.getD j 0 = z at *
          generalize pwr f r m = P at *
          have hsb := sub_bound f z 1
          have hxb := mul_bound f z (sub f z 1)
          have hyb := mul_bound f P (mul f z (sub f z 1))
          have hDb := hdb.out j
          have hs1 := Lib.hid (fun w => sub_any f z 1 hz.1 hz.2 (by omega) (by omega) w)
          have hm1 := fun w => mul_any f z (sub f z 1) hz.1 hz.2 hsb.1 (by omega) w
          have hm2 := fun w => mul_any f P (mul f z (sub f z 1)) hP.1 hP.2 hxb.1 (by omega) w
          have ha1 := fun w => add_any f (D j) (mul f P (mul f z (sub f z 1))) hDb.1 (by omega) hyb.1 (by omega) w
          rw [hst1] at ha1
          generalize sub f z 1 = s at *
          obtain ⟨x1, hx1⟩ : ∃ x1, mul f z s = x1 := ⟨_, rfl⟩
          rw [hx1] at hm1 hm2 ha1
          obtain ⟨y1, hy1⟩ : ∃ y1, mul f P x1 = y1 := ⟨_, rfl⟩
          rw [hy1] at hm2 ha1
          obtain ⟨E, hE⟩ : ∃ E, D (j + 1) = E := ⟨_, rfl⟩
          rw [hE] at ha1
          obtain ⟨G, hG⟩ : ∃ G, D j = G := ⟨_, rfl⟩
          rw [hG] at ha1 H
          replace hm1 := Lib.hid hm1
          replace hm2 := Lib.hid hm2
          replace ha1 := Lib.hid ha1
          replace hE := Lib.hid hE
          replace hG := Lib.hid hG
          clear hst1 hx1 hy1 hsb hxb hyb hDb hP hz
          go_upto_region 18 with (fail)
          refine wp_region_flow2 13 _ (.cells #[.int .u64 0, .int .u64 0] 35 (0, 0)) (by kernel_rfl) (by kernel_rfl) (by kernel_rfl) rfl rfl (fun _ _ => by simp [go_sem]) ?_
          apply Exists.intro
          refine ⟨fun ι _ φ hφ => ?_, fun w8 bb hv8 hbb kb => ?_⟩
          · have q4 := fun i => hφ.cell hc0 i
            have q5 := fun i => hφ.cell hc1 i
            obtain ⟨a0, a1⟩ := hφ.two H.k1
            simp only [List.take_succ_cons, List.take_zero]
            repeat (go_big_quiet_step ((first
              | (go_at_call 37; with_reducible exact flow_call hφ (hm1.out _))
              | (go_at_call 36; with_reducible exact flow_call hφ (hs1.out _)))))
            exact wpQuiet_nil rfl
          have h11 := Lib.hid (lt_of_get kw)
          replace H := H.up hv8
          replace kw := kw.up hv8
          clear hv8 hc0 hc1 kr
          simp only [List.drop_succ_cons, List.drop_zero, Act.put]
          have kb' : Holds w8 bb 0 := kb
          obtain ⟨e0, e1, e2, e3⟩ := blk2 kb'
          go_upto_region 19 with (fail)
          have hbw : pw < bb := by have := h11.out; omega
          refine name_wp (fun w9 => Dr w #[.int .i64 5, .int .i64 f, .int .i64 b, .int .i64 (nl : Int), .int .i64 (nW : Int), .int .i64 (S : Int)] p8 G w9 ∧ Holds w9 pw P ∧ Holds w9 bb x1) ⟨H.far h8.out (by have := h9.out; have := h10.out; omega) _ _, kw.far (by omega), kb'.set x1⟩ ?_
          clear H kw kb kb' e0 e1 e2 e3 hbb
          rintro w9 ⟨H, kw, kb⟩
          refine wp_region_flow1 7 (by kernel_rfl) (by kernel_rfl) (by kernel_rfl) ?_
          apply Exists.intro
          refine ⟨fun ι _ φ hφ => ?_, fun wt hwt => ?_⟩
          · obtain ⟨a0, a1⟩ := hφ.two H.ko
            obtain ⟨a2, a3⟩ := hφ.two kw
            obtain ⟨a4, a5⟩ := hφ.two kb
            simp only [List.take_succ_cons, List.take_zero]
            repeat (go_big_quiet_step ((first
              | (go_at_call 37; with_reducible exact flow_call hφ (hm2.out _))
              | (go_at_call 38; with_reducible exact flow_call hφ (ha1.out _)))))
            exact wpQuiet_nil rfl
          replace H := H.up hwt
          clear hwt kw kb
          simp only [List.drop_succ_cons, List.drop_zero]
          obtain ⟨e0, e1, e2, e3⟩ := blk2 H.ko
          have H9 := H.out h8.out E
          clear H
          go_wp2
          exact ⟨⟨j + 1, by omega, by go_num, by rw [hE.out]; exact H9⟩, by simp [intOf]; omega⟩
    · obtain rfl : N = j := by omega
      have j1 : ¬ (N : Int) < (N : Int) := by omega
      obtain ⟨E, hE⟩ : ∃ E, D N = E := ⟨_, rfl⟩
      have hEb := hdb.out N
      rw [hE] at H hEb
      replace hE := Lib.hid hE
      obtain ⟨c0, c1, c2, c3, c4, c5⟩ := blk6 H.k0
      go_upto_region 23 with (fail)
      clear c0 c1 c2 c3 c4 c5
      have h9 := Lib.hid (lt_of_get H.ko)
      have hvv := (Below.refl wr.heap.size wr).alloc (Nat.le_refl _) (.cells #[.int .u64 0, .int .u64 0] 35)
      refine name_wp (fun w5 => Dr w #[.int .i64 5, .int .i64 f, .int .i64 b, .int .i64 (nl : Int), .int .i64 (nW : Int), .int .i64 (S : Int)] p8 E w5 ∧ Holds w5 wr.heap.size (sumF f (vs.take 0))) ⟨H.up hvv, alloc_at rfl⟩ ?_
      clear H hvv
      generalize wr.heap.size = ps at *
      rintro w5 ⟨H, ks⟩
      go_wp2
      go_loopw [17] (fun i wr => ∃ t : Nat, t ≤ nl ∧ i = .int .i64 (t : Int) ∧ Dr w #[.int .i64 5, .int .i64 f, .int .i64 b, .int .i64 (nl : Int), .int .i64 (nW : Int), .int .i64 (S : Int)] p8 E wr ∧ Holds wr ps (sumF f (vs.take t))) (fun i _ => nl - (intOf i).toNat)
      case atStart => exact ⟨0, Nat.zero_le _, rfl, H, ks⟩
      case round =>
        clear H ks
        obtain ⟨t, ht, rfl, H, ks⟩ := hrel
        obtain ⟨c0, c1, c2, c3, c4, c5⟩ := blk6 H.k0
        by_cases hltt : t < nl
        · have t1 : (t : Int) < (nl : Int) := by omega
          have t0 : (0 : Int) ≤ (t : Int) := by omega
          have tN : (t : Int) < (N : Int) := by omega
          obtain ⟨p, o, rfl, hc0, hc1⟩ := (hA.out.up H.hb) t (by rw [hl.out]; omega)
          have hz := hvo.out.at_ (k := t) (by rw [hl.out]; omega)
          have hsb := sumF_bound f (vs.take t)
          have hsx := sumF_take f (xs := vs) (k := t) (by rw [hl.out]; omega)
          generalize vs.getD t 0 = z at *
          have ha1 := fun w => add_any f (sumF f (vs.take t)) z hsb.1 (by omega) hz.1 hz.2 w
          rw [hsx] at ha1
          obtain ⟨Y, hY⟩ : ∃ Y, sumF f (vs.take (t + 1)) = Y := ⟨_, rfl⟩
          rw [hY] at ha1
          generalize sumF f (vs.take t) = X at *
          replace ha1 := Lib.hid ha1
          replace hY := Lib.hid hY
          clear hz hsb hsx
          go_upto_region 26 with (fail)
          clear c0 c1 c2 c3 c4 c5
          refine wp_region_flow1 7 (by kernel_rfl) (by kernel_rfl) (by kernel_rfl) ?_
          apply Exists.intro
          refine ⟨fun ι _ φ hφ => ?_, fun wt hwt => ?_⟩
          · obtain ⟨a0, a1⟩ := hφ.two ks
            have q4 := fun i => hφ.cell hc0 i
            have q5 := fun i => hφ.cell hc1 i
            simp only [List.take_succ_cons, List.take_zero]
            repeat (go_big_quiet_step ((go_at_call 38; with_reducible exact flow_call hφ (ha1.out _))))
            exact wpQuiet_nil rfl
          replace H := H.up hwt
          replace ks := ks.up hwt
          clear hwt hc0 hc1
          simp only [List.drop_succ_cons, List.drop_zero]
          obtain ⟨e0, e1, e2, e3⟩ := blk2 ks
          have H9 := H.far h8.out (p := ps) (by have := h9.out; omega) (.int .u64 (lo Y)) (.int .u64 (hi Y))
          have k9 := ks.set Y
          clear H ks
          go_wp2
          exact ⟨⟨t + 1, by omega, by go_num, H9, by rw [hY.out]; exact k9⟩, by simp [intOf]; omega⟩
        · obtain rfl : nl = t := by omega
          have t1' : ¬ (nl : Int) < (nl : Int) := by omega
          have hsb := sumF_bound f (vs.take nl)
          obtain ⟨Y, hY⟩ : ∃ Y, sumF f (vs.take nl) = Y := ⟨_, rfl⟩
          rw [hY] at ks hsb
          have ha0 := fun w => add_any f Y (O : Int) hsb.1 (by omega) (by omega) (by omega) w
          rw [hoi.out, hoh.out] at ha0
          have hqb := add_bound f Y (O : Int)
          obtain ⟨Q, hQ⟩ : ∃ Q, add f Y (O : Int) = Q := ⟨_, rfl⟩
          rw [hQ] at ha0 hqb
          have hs1 := Lib.hid (fun w => sub_any f Q V hqb.1 (by omega) hV.out.1 (by have := hV.out; omega) w)
          have hrb := sub_bound f Q V
          obtain ⟨R, hR⟩ : ∃ R, sub f Q V = R := ⟨_, rfl⟩
          rw [hR] at hs1 hrb
          have hmb := mul_bound f zl R
          have hm9 := fun w => mul_any f zl R hzl.out.1 hzl.out.2 hrb.1 (by omega) w
          have ha9 := fun w => add_any f E (mul f zl R) hEb.1 (by omega) hmb.1 (by omega) w
          have hZ' := hZ.out
          rw [hE.out, hY, hQ, hR] at hZ'
          rw [hZ'] at ha9
          generalize mul f zl R = mv at *
          replace hm9 := Lib.hid hm9
          replace ha9 := Lib.hid ha9
          replace ha0 := Lib.hid ha0
          replace hY := Lib.hid hY
          replace hQ := Lib.hid hQ
          replace hR := Lib.hid hR
          clear hZ' hsb hrb hmb hqb
          go_upto_region 29 with (fail)
          clear c0 c1 c2 c3 c4 c5
          refine wp_region_flow1 7 (by kernel_rfl) (by kernel_rfl) (by kernel_rfl) ?_
          apply Exists.intro
          refine ⟨fun ι _ φ hφ => ?_, fun wt hwt => ?_⟩
          · obtain ⟨a0, a1⟩ := hφ.two ks
            have q := fun i => blk6 (keeps (hφ.old i) H.k0)
            have q0 := fun i => (q i).1
            have q1 := fun i => (q i).2.1
            have q2 := fun i => (q i).2.2.1
            have q3 := fun i => (q i).2.2.2.1
            have q4 := fun i => (q i).2.2.2.2.1
            have q5 := fun i => (q i).2.2.2.2.2
            clear q
            simp only [List.take_succ_cons, List.take_zero]
            repeat (go_big_quiet_step ((first
              | (go_at_call 39; with_reducible exact flow_call hφ (hof.out _))
              | (go_at_call 38; with_reducible exact flow_call hφ (ha0.out _)))))
            exact wpQuiet_nil rfl
          replace H := H.up hwt
          replace ks := ks.up hwt
          clear hwt
          simp only [List.drop_succ_cons, List.drop_zero]
          obtain ⟨e0, e1, e2, e3⟩ := blk2 ks
          go_upto_region 30 with (fail)
          refine name_wp (fun w9 => Dr w #[.int .i64 5, .int .i64 f, .int .i64 b, .int .i64 (nl : Int), .int .i64 (nW : Int), .int .i64 (S : Int)] p8 E w9 ∧ Holds w9 ps Q) ⟨H.far h8.out (p := ps) (by have := h9.out; omega) _ _, ks.set Q⟩ ?_
          clear H ks e0 e1 e2 e3
          rintro w9 ⟨H, ks⟩
          obtain ⟨pa, oa, rfl, -, -⟩ := (hA.out.up H.hb) 0 (by rw [hl.out]; omega)
          refine wp_region_flow1 9 (by kernel_rfl) (by kernel_rfl) (by kernel_rfl) ?_
          apply Exists.intro
          refine ⟨fun ι _ φ hφ => ?_, fun wt hwt => ?_⟩
          · obtain ⟨a0, a1⟩ := hφ.two ks
            have q3 := fun i => (blk6 (keeps (hφ.old i) H.k0)).2.2.2.1
            have hn2 := Lib.hid (fun i => hnum.out (some ⟨pa, oa + nl * 2, none⟩) (φ i) ((hA.out.up (below_next H.hb H.hb.size (hφ.old i))).drop nl))
            simp only [List.take_succ_cons, List.take_zero]
            repeat (go_big_quiet_step ((first
              | (go_at_call 40; with_reducible exact flow_call hφ (hn2.out _))
              | (go_at_call 36; with_reducible exact flow_call hφ (hs1.out _)))))
            exact wpQuiet_nil rfl
          replace H := H.up hwt
          replace ks := ks.up hwt
          clear hwt
          simp only [List.drop_succ_cons, List.drop_zero]
          obtain ⟨e0, e1, e2, e3⟩ := blk2 ks
          go_upto_region 31 with (fail)
          refine name_wp (fun w9 => Dr w #[.int .i64 5, .int .i64 f, .int .i64 b, .int .i64 (nl : Int), .int .i64 (nW : Int), .int .i64 (S : Int)] p8 E w9 ∧ Holds w9 ps R) ⟨H.far h8.out (p := ps) (by have := h9.out; omega) _ _, ks.set R⟩ ?_
          clear H ks e0 e1 e2 e3
          rintro w9 ⟨H, ks⟩
          obtain ⟨p2, o2, rfl, hc0, hc1⟩ := (hB.out.up H.hb) tl (by rw [hjl.out, hnt.out]; omega)
          rw [hzle.out] at hc0 hc1
          refine wp_region_flow1 12 (by kernel_rfl) (by kernel_rfl) (by kernel_rfl) ?_
          apply Exists.intro
          refine ⟨fun ι _ φ hφ => ?_, fun wt hwt => ?_⟩
          · obtain ⟨a0, a1⟩ := hφ.two H.ko
            obtain ⟨a2, a3⟩ := hφ.two ks
            have q4 := fun i => hφ.cell hc0 i
            have q5 := fun i => hφ.cell hc1 i
            simp only [List.take_succ_cons, List.take_zero]
            repeat (go_big_quiet_step ((first
              | (go_at_call 37; with_reducible exact flow_call hφ (hm9.out _))
              | (go_at_call 38; with_reducible exact flow_call hφ (ha9.out _)))))
            exact wpQuiet_nil rfl
          replace H := H.up hwt
          clear hwt hc0 hc1 ks
          simp only [List.drop_succ_cons, List.drop_zero]
          obtain ⟨s0, s1, s2, s3⟩ := blk2 H.kr
          go_wp2
          obtain ⟨z0, z1, _, _⟩ := blk2 (H.kr.set Z)
          exact bodyPost_ret (v := .agg #[.int .u64 (lo Z), .int .u64 (hi Z)]) (by simp [results, Tryz.results14, go_sem, z0, z1]) rfl ⟨rfl, below_store2 H.hb (by omega)⟩
theorem rdirect_any (x : Ci) (h : x.Good) (vs js : List Int) (A B : Option Addr) (N cp n cq : Nat) (hl : vs.length = N) (hN : N = x.inN) (hjl : js.length = n) (hn : n = x.jointN) (hcp : N ≤ cp) (hv : InF x.f vs) (hj : InF x.f js) (w : World) (hA : ElemsAt w A vs) (hB : ElemsAt w B js) :
    Calls Tryz.prog 14 #[rvl x, .slice A N cp, .slice B n cq] w fun e w' => e = .returned (.agg #[.int .u64 (lo (dirV x vs js)), .int .u64 (hi (dirV x vs js))]) ∧ Below w.heap.size w w' := by
  have hk1 := h.fits.k1
  have hk5 := h.fits.k5
  rcases (show x.k = 1 ∨ x.k = 2 ∨ x.k = 3 ∨ x.k = 4 ∨ x.k = 5 by omega) with hk | hk | hk | hk | hk
  · exact rdirect_one x h hk vs js A B N cp n cq hl hN hcp hv w hA
  · exact rdirect_2 x h hk vs js A B N cp n cq hl hN hjl hn hcp hv hj w hA hB
  · exact rdirect_3 x h hk vs js A B N cp n cq hl hN hjl hn hcp hv hj w hA hB
  · exact rdirect_4 x h hk vs js A B N cp n cq hl hN hjl hn hcp hv hj w hA hB
  · exact rdirect_5 x h hk vs js A B N cp n cq hl hN hjl hn hcp hv hj w hA hB
end Go.Proofs.YtgdokfchfgnbbaaGreat
