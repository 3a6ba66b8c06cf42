/-
  Weights of values at the powers of a root.
-/
import Derived.Test.YtbpedpkhhjfhjaaDoorPpB
import Derived.Test.YtbpedpkhhjfhjaaDoorPoF
import Derived.Deep.DeepCutAuto
import Derived.Deep.CutBlock
namespace Go.Proofs.YtbpedpkhhjfhjaaDoor
open Go.RowKit F Flow
set_option linter.unusedVariables false
set_option linter.unusedSimpArgs false
attribute [local go_sem] eql_elem

theorem fpw_any {f : Int} (ft : Ft f) (a : Int) (N : Nat) (a0 : 0 ≤ a) (a1 : a < 340282366920938463463374607431768211456) (hN : N ≤ 1024) (w : World) : Calls Tryd.prog 59 #[.int .u8 f, .agg #[.int .u64 (lo a), .int .u64 (hi a)], .int .u64 (N : Int)] w fun e w' => e = .returned (.agg #[.int .u64 (lo (pow f a N)), .int .u64 (hi (pow f a N))]) ∧ Below w.heap.size w w' := by
  rcases ft.one2 with rfl | rfl
  · exact fpow_one a N (by omega) (by omega) w
  · exact fpow_two a N a0 a1 (by omega) (by omega) w
/-- What Weights answers. -/
def WtOut (f : Int) (k : Nat) (x : Int) (N : Nat) (w : World) (e : Ending) (w' : World) : Prop :=
  ((∃ i, i < N ∧ redu f x = power (mul f) (rt f k) i) ∧ e = .returned (.tuple #[.slice none 0 0, .int .i64 12]) ∧ Below w.heap.size w w') ∨
  ∃ g Wt, (∀ i, i < N → redu f x ≠ power (mul f) (rt f k) i) ∧ e = .returned (.tuple #[.slice (some ⟨g, 0, none⟩) N N, .int .i64 0]) ∧ Below w.heap.size w w' ∧ Row w' g (lst Wt N) ∧ (∀ t, 0 ≤ Wt t ∧ Wt t < M f) ∧
    ∀ v, 0 ≤ v ∧ v < M f → mul f (N : Int) v = 1 → ∀ i, i < N → Eqm (M f) (Wt i) (v * shr (rt f k) (redu f x) N i)
theorem sub_zero_iff {f x p : Int} (hp : 0 ≤ p ∧ p < M f) : sub f x p = 0 ↔ redu f x = p := by
  have hx : 0 ≤ redu f x ∧ redu f x < M f := ⟨redu_nonneg _ _, redu_lt _ _⟩
  have hr : Eqm (M f) (sub f x p) (redu f x - p) := by
    have : sub f x p = sub f (redu f x) p := by unfold sub; rw [redu_redu]
    rw [this]
    exact sub_eqm f _ _ hx hp
  constructor
  · intro h
    rw [h] at hr
    have := hr.add (Eqm.rfl' (m := M f) (a := p))
    rw [Int.zero_add, Int.sub_add_cancel] at this
    exact (in_eq hp hx this).symm
  · intro h
    rw [h, Int.sub_self] at hr
    exact in_eq (sub_bound f _ _) ⟨Int.le_refl _, M_pos f⟩ hr
/-- One weight. -/
theorem weight_eqm {f : Int} {W x r p v v' : Int} {N i : Nat} (hW : Eqm (M f) (W ^ N) 1) (hx : 0 ≤ x ∧ x < M f) (hr : 0 ≤ r ∧ r < M f) (hp : 0 ≤ p ∧ p < M f) (hv : 0 ≤ v ∧ v < M f) (hv' : 0 ≤ v' ∧ v' < M f) (hN : (N : Int) < M f) (h2 : 1 < M f)
    (hpe : Eqm (M f) p (W ^ i)) (h1 : mul f (sub f x p) r = 1) (hm : mul f (N : Int) v = 1) (hm' : mul f (N : Int) v' = 1) :
    Eqm (M f) (mul f r (mul f p (mul f (sub f (pow f x N) 1) v))) (v' * shr W x N i) := by
  have hN' : 0 ≤ (N : Int) ∧ (N : Int) < M f := ⟨by omega, hN⟩
  have e1 : Eqm (M f) ((N : Int) * v) 1 := by have := mul_eqm f _ _ hN' hv; rw [hm] at this; exact this.symm'
  have e2 : Eqm (M f) ((N : Int) * v') 1 := by have := mul_eqm f _ _ hN' hv'; rw [hm'] at this; exact this.symm'
  have evv : Eqm (M f) v v' := by
    have a1 := e2.mul (Eqm.rfl' (m := M f) (a := v))
    have a2 := e1.mul (Eqm.rfl' (m := M f) (a := v'))
    rw [Int.one_mul] at a1 a2
    have e : (N : Int) * v' * v = (N : Int) * v * v' := by rw [Int.mul_assoc, Int.mul_comm v' v, ← Int.mul_assoc]
    rw [e] at a1
    exact a1.symm'.trans' a2
  have e3 : Eqm (M f) ((x - W ^ i) * r) 1 := by
    have := mul_eqm f _ _ (sub_bound f x p) hr
    rw [h1] at this
    exact (((sub_eqm f _ _ hx hp).trans' (Eqm.sub rfl hpe)).mul (Eqm.rfl' (m := M f) (a := r))).symm'.trans' this.symm'
  have hpw : Eqm (M f) (sub f (pow f x N) 1) (x ^ N - 1) := by
    refine (sub_eqm f _ _ (pow_bound f x N) ⟨by decide, h2⟩).trans' (Eqm.sub ?_ rfl)
    unfold pow
    rw [redu_of_lt hx.1 hx.2]
    exact eqm_mod _ _
  have e4 : Eqm (M f) (mul f p (mul f (sub f (pow f x N) 1) v)) (W ^ i * ((x ^ N - 1) * v)) :=
    (mul_eqm f _ _ hp (mul_bound f _ _)).trans' (hpe.mul ((mul_eqm f _ _ (sub_bound f _ _) hv).trans' (hpw.mul rfl)))
  have e5 := (mul_eqm f _ _ hr (mul_bound f p _)).trans' ((Eqm.rfl' (m := M f) (a := r)).mul e4)
  refine e5.trans' ?_
  have h6 := (shr_eqm (x := x) hW i).mul (Eqm.rfl' (m := M f) (a := r * v))
  have e6 : r * (W ^ i * ((x ^ N - 1) * v)) = W ^ i * (x ^ N - 1) * (r * v) := by
    generalize W ^ i = a
    generalize x ^ N - 1 = b
    grind
  rw [e6]
  refine h6.symm'.trans' ?_
  have e7 : (x - W ^ i) * shr W x N i * (r * v) = (x - W ^ i) * r * (v * shr W x N i) := by
    generalize x - W ^ i = a
    generalize shr W x N i = b
    grind
  rw [e7]
  have h8 := e3.mul (evv.mul (Eqm.rfl' (m := M f) (a := shr W x N i)))
  rw [Int.one_mul] at h8
  exact h8
/-- What is kept of the world. -/
structure WtK (w : World) (x : Int) (P D : Nat → Int) (N gq ga : Nat) (wr : World) : Prop where
  below : Below w.heap.size w wr
  p : Row wr gq (lst P N)
  d : Row wr ga (lst D N)
  x : Holds wr w.heap.size x
theorem WtK.up {w : World} {x : Int} {P D : Nat → Int} {N gq ga : Nat} {w1 w2 : World} (h : WtK w x P D N gq ga w1) (hb : Below w1.heap.size w1 w2) : WtK w x P D N gq ga w2 :=
  ⟨below_next h.below h.below.size hb, h.p.up hb, h.d.up hb, h.x.up hb⟩
theorem WtK.put {w : World} {x : Int} {P D : Nat → Int} {N gq ga : Nat} {w1 : World} (h : WtK w x P D N gq ga w1) (hg : w.heap.size < ga) (hne : gq ≠ ga) {j : Nat} (hj : j < N) (z : Int) {D' : Nat → Int} (e : (lst D N).set j z = lst D' N) :
    WtK w x P D' N gq ga ((w1.setCell ⟨ga, j * 2, none⟩ (.int .u64 (lo z))).setCell ⟨ga, j * 2 + 1, none⟩ (.int .u64 (hi z))) :=
  ⟨(h.below.setCell (p := ⟨ga, j * 2, none⟩) (Nat.le_of_lt hg) _).setCell (p := ⟨ga, j * 2 + 1, none⟩) (Nat.le_of_lt hg) _, h.p.far hne, by rw [← e]; exact h.d.set (by rw [lst_length]; exact hj) z, h.x.far' (by omega)⟩
set_option maxRecDepth 20000 in
set_option maxHeartbeats 4000000 in
theorem weights_any {f : Int} (ft : Ft f) (k : Nat) (hk : k ≤ 10) (hR : RootOf f k (rt f k)) (N : Nat) (hN : N = 2 ^ k) (x : Int) (x0 : 0 ≤ x) (x1 : x < 340282366920938463463374607431768211456) (w : World) :
    Calls Tryd.prog 32 #[.int .u8 f, .int .i64 (k : Int), .agg #[.int .u64 (lo x), .int .u64 (hi x)]] w (WtOut f k x N w) := by
  have hN1024 : N ≤ 1024 := by rw [hN]; exact two_le hk
  have hN1 : 1 ≤ N := by rw [hN]; exact two_pos k
  have hpts := Lib.hid (npoints_any ft k hk)
  unfold PtsOut at hpts
  rw [show powers (mul f) (rt f k) (2 ^ k) = lst (power (mul f) (rt f k)) N by rw [hN]; rfl, ← hN] at hpts
  have hMl := M_lt f
  have hPin : ∀ t, 0 ≤ power (mul f) (rt f k) t ∧ power (mul f) (rt f k) t < M f := fun t => by rw [power_eq f _ hR.lo hR.hi]; exact mod_in f _
  have hPe : ∀ t, Eqm (M f) (power (mul f) (rt f k) t) (rt f k ^ t) := fun t => by rw [power_eq f _ hR.lo hR.hi]; exact eqm_mod _ _
  have hWN : Eqm (M f) (rt f k ^ N) 1 := by rw [hN]; exact hR.whole
  unfold WtOut
  generalize power (mul f) (rt f k) = P at *
  generalize rt f k = W at *
  replace hN := Lib.hid hN
  have hNM : (N : Int) < M f := by rcases ft.one2 with rfl | rfl <;> (unfold M; simp; omega)
  have h2 : 1 < M f := by rcases ft.one2 with rfl | rfl <;> decide
  obtain ⟨v, hv, hmv, hcv⟩ := (ft.hinv (N : Int) (by omega) (by omega)).2 (by rw [redu_of_lt (by omega) hNM]; omega)
  have hof := Lib.hid (ft.hof (N : Int) (by omega) (by omega))
  have hone := Lib.hid ft.hone
  have hpow := Lib.hid (fpw_any ft x N x0 x1 (by omega))
  have hpb := pow_bound f x N
  obtain ⟨hs0, hcs⟩ := ft.hsub (pow f x N) 1 hpb.1 (by omega) (by omega) (by omega)
  rw [show lo 1 = 1 from rfl, show hi 1 = 0 from rfl] at hcs
  obtain ⟨hw0, hcw⟩ := ft.hmul (sub f (pow f x N) 1) v hs0.1 hs0.2 hv.1 (by omega)
  obtain ⟨D, hD⟩ : ∃ D : Nat → Int, D = fun i => sub f x (P i) := ⟨_, rfl⟩
  have hDin : ∀ t, 0 ≤ D t ∧ D t < M f := fun t => by rw [hD]; exact sub_bound f _ _
  have hsubP : Hid (∀ i, ∀ w, Calls Tryd.prog 52 #[.int .u8 f, .agg #[.int .u64 (lo x), .int .u64 (hi x)], .agg #[.int .u64 (lo (P i)), .int .u64 (hi (P i))]] w fun e w' => e = .returned (.agg #[.int .u64 (lo (D i)), .int .u64 (hi (D i))]) ∧ Below w.heap.size w w') := Lib.hid (fun i => by
    have h := hPin i
    rw [hD]
    exact (ft.hsub x (P i) x0 x1 h.1 (by omega)).2)
  have hmk := make_elems N (by omega)
  have hft := Lib.hid ft
  replace hcv := Lib.hid hcv
  replace hcs := Lib.hid hcs
  replace hcw := Lib.hid hcw
  replace hD := Lib.hid hD
  have hsum : Hid (∀ r i v', 0 ≤ r ∧ r < M f → mul f (sub f x (P i)) r = 1 → 0 ≤ v' ∧ v' < M f → mul f (N : Int) v' = 1 → Eqm (M f) (mul f r (mul f (P i) (mul f (sub f (pow f x N) 1) v))) (v' * shr W (redu f x) N i)) := Lib.hid (by
    intro r i v' hr h1 hv' hm'
    have e1 : sub f x (P i) = sub f (redu f x) (P i) := by unfold sub; rw [redu_redu]
    have e2 : pow f x N = pow f (redu f x) N := by unfold pow; rw [redu_redu]
    rw [e1] at h1
    rw [e2]
    exact weight_eqm hWN ⟨redu_nonneg _ _, redu_lt _ _⟩ hr (hPin i) hv hv' hNM h2 (hPe i) h1 hmv hm')
  generalize mul f (sub f (pow f x N) 1) v = wh at *
  generalize sub f (pow f x N) 1 = s1 at *
  generalize pow f x N = pw at *
  clear ft hR hWN hPe hpb hs0
  go_enter Tryd.func32, Tryd.ntmps32
  go_wp2_with fail
  refine name_calls (fun w1 => Below w.heap.size w w1 ∧ Holds w1 w.heap.size x) ⟨(Below.refl _ _).alloc (Nat.le_refl _) _, alloc_at rfl⟩ ?_
  rintro w1 ⟨hb, kx⟩
  refine (hpts.out _).mono ?_
  rintro e w2 ⟨gq, rfl, hb2, hgq, hrq⟩
  have hgw := lt_of_get kx
  replace hb := below_next hb hb.size hb2
  replace kx := kx.up hb2
  have hgq2 : w.heap.size < gq := by omega
  clear hb2 hgq hpts hgw
  go_upto_region 5 with (fail)
  have hk0 : WtK w x P (upto D (fun _ => 0) 0) N gq w2.heap.size (w2.alloc (.cells (ecells (List.replicate N 0)).toArray 25)) := ⟨hb.alloc hb.size _, hrq.alloc _, zrow0 D w2 N, kx.alloc _⟩
  have hga : w.heap.size < w2.heap.size := lt_of_get kx
  have hne : gq ≠ w2.heap.size := Nat.ne_of_lt (lt_of_get hrq)
  refine name_wp (fun w3 => WtK w x P (upto D (fun _ => 0) 0) N gq w2.heap.size w3) hk0 ?_
  clear hk0 hb kx hrq hmk
  generalize w2.heap.size = ga at *
  intro w3 hk'
  go_wp2
  go_loopw [33] (fun i wr => ∃ j : Nat, j ≤ N ∧ i = .int .i64 (j : Int) ∧ WtK w x P (upto D (fun _ => 0) j) N gq ga wr) (fun i _ => N - (intOf i).toNat)
  case atStart => exact ⟨0, Nat.zero_le _, rfl, hk'⟩
  case round =>
    clear hk'
    obtain ⟨j, hj, rfl, hk'⟩ := hrel
    by_cases hlt : j < N
    · have hset := upto_set D (fun _ => 0) j N
      have c0 := hk'.p.lo (k := j) (by rw [lst_length]; exact hlt)
      have c1 := hk'.p.hi (k := j) (by rw [lst_length]; exact hlt)
      rw [lst_at P hlt] at c0 c1
      have hs := Lib.hid (hsubP.out j)
      generalize D j = z at *
      generalize P j = p at *
      replace hset := Lib.hid hset
      have i0 : (0 : Int) ≤ (j : Int) := by omega
      have i1 : (j : Int) < (N : Int) := by omega
      have l1 := World.block_lt_of_cell? _ _ c0
      have l2 : gq ≠ wr.heap.size := Nat.ne_of_lt l1
      obtain ⟨s0, s1', s2, s3⟩ := blk2 hk'.x
      have l3 := lt_of_get hk'.x
      have l4 : w.heap.size ≠ wr.heap.size := Nat.ne_of_lt l3
      go_wp2_with fail
      refine name_calls (fun w5 => WtK w x P (upto D (fun _ => 0) j) N gq ga w5) (hk'.up ((Below.refl _ _).alloc (Nat.le_refl _) _)) ?_
      clear hk' c0 c1 l1 l2 s0 s1' s2 s3 l3 l4
      intro w5 hk'
      refine call_then (hs.out _) ?_
      intro w6 hb2
      replace hk' := hk'.up hb2
      clear hb2
      have d0 := hk'.d.lo (k := j) (by rw [lst_length]; exact hlt)
      have d1 := hk'.d.hi (k := j) (by rw [lst_length]; exact hlt)
      have e0 := hk'.d.free (j * 2)
      have e1 := hk'.d.free (j * 2 + 1)
      replace hk' := hk'.put hga hne hlt z hset.out
      go_wp2
      exact ⟨⟨j + 1, by omega, by go_num, hk'⟩, by simp [intOf]; omega⟩
    · obtain rfl : j = N := by omega
      obtain ⟨hb, hp', hd, hx'⟩ := hk'
      rw [upto_full] at hd
      by_cases hz : ∃ i, i < j ∧ redu f x = P i
      · have hz0 : redu f (prods f (lst D j) j) = 0 := by
          obtain ⟨i, hi9, e⟩ := hz
          refine prods_nought (i := i) ?_ hi9 (by rw [lst_length]; exact Nat.le_refl _)
          rw [lst_at D hi9, hD.out]
          show redu f (sub f x (P i)) = 0
          rw [(sub_zero_iff (hPin i)).2 e]
          exact redu_zero f
        have hiv := Lib.hid (fun A c w h => finvvec_zero f (lst D j) A j c (lim_f (f := f) hDin).ok (lst_length _ _) (by omega) hz0 hft.out.hval hft.out.hone hft.out.hmul hft.out.hinv w h)
        replace hz := Lib.hid hz
        clear hz0
        go_wp2_with fail
        refine call_then (hiv.out _ _ _ hd.elems) ?_
        intro w6 hb2
        replace hb := below_next hb hb.size hb2
        clear hb2 hiv hp' hd hx'
        go_wp2
        go_ret2
        exact .inl ⟨hz.out, rfl, hb⟩
      · have hdiff : Hid (∀ i, i < j → redu f x ≠ P i) := Lib.hid (fun i h e => hz ⟨i, h, e⟩)
        have hall : ∀ i, i < j → D i ≠ 0 := fun i h e => hz ⟨i, h, (sub_zero_iff (hPin i)).1 (by rw [hD.out] at e; exact e)⟩
        have hu : redu f (prods f (lst D j) j) ≠ 0 := by
          obtain ⟨y, hy⟩ := prods_unit (f := f) (xs := lst D j) (k := j) (by rw [lst_length]; exact Nat.le_refl _) (fun i h1 h2' => by
            rw [lst_at D h1]
            have hdi := hDin i
            obtain ⟨v', _, hm, _⟩ := (hft.out.hinv (D i) hdi.1 (by omega)).2 (by rw [redu_of_lt hdi.1 hdi.2]; exact hall i h1)
            exact ⟨v', hm⟩)
          exact redu_of_unit hy
        have hiv := Lib.hid (fun A c w h => finvvec_new f (lst D j) A j c (lim_f (f := f) hDin).ok (lst_length _ _) (by omega) hu hft.out.hval hft.out.hone hft.out.hmul hft.out.hinv w h)
        clear hz hall hu
        go_wp2_with fail
        refine (hiv.out _ _ _ hd.elems).mono ?_
        rintro e w6 ⟨g, rs, rfl, hb2, hg, hr, hrs1, hrs2⟩
        rw [lst_length] at hrs1 hrs2
        rw [← lst_of rs hrs1] at hr
        obtain ⟨R, hRe⟩ : ∃ R : Nat → Int, ∀ i, R i = rs.getD i 0 := ⟨fun i => rs.getD i 0, fun _ => rfl⟩
        rw [show (fun i => rs.getD i 0) = R from (funext hRe).symm] at hr
        have hRf : Hid (∀ i, i < j → (0 ≤ R i ∧ R i < M f) ∧ mul f (sub f x (P i)) (R i) = 1) := Lib.hid (fun i h => by
          have h3 := hrs2 i h
          rw [lst_at D h, hD.out] at h3
          rw [hRe]
          exact h3)
        have hk' : WtK w x P R j gq g w6 := ⟨below_next hb hb.size hb2, hp'.up hb2, hr, hx'.up hb2⟩
        have hgq' : gq ≠ g := by have := lt_of_get hp'; omega
        have hwg : w.heap.size < g := by have := lt_of_get hx'; omega
        clear hRe hrs1 hrs2 hb hp' hd hx' hb2 hr hg hiv hD hDin hsubP hga hne
        obtain ⟨Wt, hWt⟩ : ∃ Wt : Nat → Int, Wt = fun i => mul f (R i) (mul f (P i) wh) := ⟨_, rfl⟩
        have hwM : 0 ≤ wh ∧ wh < 340282366920938463463374607431768211456 := hw0
        have hm1 : Hid (∀ i, i < j → ∀ w, Calls Tryd.prog 26 #[.int .u8 f, .agg #[.int .u64 (lo (P i)), .int .u64 (hi (P i))], .agg #[.int .u64 (lo wh), .int .u64 (hi wh)]] w fun e w' => e = .returned (.agg #[.int .u64 (lo (mul f (P i) wh)), .int .u64 (hi (mul f (P i) wh))]) ∧ Below w.heap.size w w') := Lib.hid (fun i h => by
          have h1 := hPin i
          exact (hft.out.hmul (P i) wh h1.1 (by omega) hwM.1 hwM.2).2)
        have hm2 : Hid (∀ i, i < j → ∀ w, Calls Tryd.prog 26 #[.int .u8 f, .agg #[.int .u64 (lo (R i)), .int .u64 (hi (R i))], .agg #[.int .u64 (lo (mul f (P i) wh)), .int .u64 (hi (mul f (P i) wh))]] w fun e w' => e = .returned (.agg #[.int .u64 (lo (Wt i)), .int .u64 (hi (Wt i))]) ∧ Below w.heap.size w w') := Lib.hid (fun i h => by
          have h1 := (hRf.out i h).1
          have h2 := mul_bound f (P i) wh
          rw [hWt]
          exact (hft.out.hmul (R i) (mul f (P i) wh) h1.1 (by omega) h2.1 (by omega)).2)
        have hWf : Hid ((∀ t, 0 ≤ Wt t ∧ Wt t < M f) ∧ ∀ v, 0 ≤ v ∧ v < M f → mul f (j : Int) v = 1 → ∀ i, i < j → Eqm (M f) (Wt i) (v * shr W (redu f x) j i)) := Lib.hid ⟨fun t => by rw [hWt]; exact mul_bound f _ _, fun v' hv' hm' i hi9 => by rw [hWt]; exact hsum.out (R i) i v' (hRf.out i hi9).1 (hRf.out i hi9).2 hv' hm'⟩
        clear hsum hRf hWt hft hPin hw0
        have hjw : IntKind.u64.wrap (j : Int) = (j : Int) := by rw [IntKind.wrap_u64]; omega
        go_wp2_with fail
        refine call_then (hof.out _) ?_
        intro w7 hb2
        replace hk' := hk'.up hb2
        clear hb2 hof
        go_wp2_with fail
        refine call_then (hcv.out _) ?_
        intro w8 hb2
        replace hk' := hk'.up hb2
        clear hb2 hcv
        go_wp2
        refine name_wp (fun w9 => WtK w x P R j gq g w9 ∧ Holds w9 w8.heap.size v) ⟨hk'.up ((Below.refl _ _).alloc (Nat.le_refl _) _), alloc_at rfl⟩ ?_
        clear hk'
        generalize w8.heap.size = p15 at *
        rintro w9 ⟨hk', kv⟩
        refine wp_region_flow2 11 _ (.cells #[.int .u64 0, .int .u64 0] 25 (0, 0)) (by kernel_rfl) (by kernel_rfl) (by kernel_rfl) rfl rfl (fun _ _ => by simp [go_sem]) ?_
        apply Exists.intro
        refine ⟨fun ι _ φ hφ => ?_, fun w10 b hw10 hbb kb => ?_⟩
        · obtain ⟨e2, e3⟩ := hφ.two hk'.x
          obtain ⟨e4, e5⟩ := hφ.two kv
          simp only [List.take_succ_cons, List.take_zero]
          repeat (go_big_quiet_step ((first
            | (go_at_call 59; exact flow_call hφ (hpow.out _))
            | (go_at_call 50; exact flow_call hφ (hone.out _))
            | (go_at_call 52; exact flow_call hφ (hcs.out _))
            | (go_at_call 26; exact flow_call hφ (hcw.out _)))))
          exact wpQuiet_nil rfl
        have lg := lt_of_get hk'.d
        have lq := lt_of_get hk'.p
        have lx := lt_of_get hk'.x
        have hbw := hk'.below.size
        replace hk' := hk'.up hw10
        clear hw10 kv
        simp only [List.drop_succ_cons, List.drop_zero, Act.put]
        obtain ⟨e0, e1, e2, e3⟩ := blk2 kb
        go_upto_region 18 with (fail)
        refine name_wp (fun w11 => WtK w x P (upto Wt R 0) j gq g w11 ∧ Holds w11 b wh) ⟨⟨below_store2 hk'.below (by omega), hk'.p.far (by omega), by rw [upto_zero]; exact hk'.d.far (by omega), hk'.x.far' (by omega)⟩, store2 kb⟩ ?_
        have hgb : g ≠ b := by omega
        have hqb : gq ≠ b := by omega
        clear hk' kb e0 e1 e2 e3 hbb lg lq lx hbw
        rintro w11 ⟨hk', kb⟩
        go_wp2
        go_loopw [81] (fun i wr => ∃ t : Nat, t ≤ j ∧ i = .int .i64 (t : Int) ∧ WtK w x P (upto Wt R t) j gq g wr ∧ Holds wr b wh) (fun i _ => j - (intOf i).toNat)
        case atStart => exact ⟨0, Nat.zero_le _, rfl, hk', kb⟩
        case round =>
          clear hk' kb
          obtain ⟨t, ht, rfl, hk', kb⟩ := hrel
          by_cases hlt2 : t < j
          · have hset := upto_set Wt R t j
            have hat := upto_at Wt R hlt2
            have c0 := hk'.p.lo (k := t) (by rw [lst_length]; exact hlt2)
            have c1 := hk'.p.hi (k := t) (by rw [lst_length]; exact hlt2)
            rw [lst_at P hlt2] at c0 c1
            have h1 := Lib.hid (hm1.out t hlt2)
            have h2' := Lib.hid (hm2.out t hlt2)
            generalize Wt t = z at *
            generalize mul f (P t) wh = m at *
            generalize P t = p at *
            generalize R t = r at *
            replace hset := Lib.hid hset
            replace hat := Lib.hid hat
            have i0 : (0 : Int) ≤ (t : Int) := by omega
            have i1 : (t : Int) < (j : Int) := by omega
            have l1 := World.block_lt_of_cell? _ _ c0
            have l2 : gq ≠ wr.heap.size := Nat.ne_of_lt l1
            go_wp2
            refine name_wp (fun w12 => WtK w x P (upto Wt R t) j gq g w12 ∧ Holds w12 b wh ∧ Holds w12 wr.heap.size p) ⟨hk'.up ((Below.refl _ _).alloc (Nat.le_refl _) _), kb.alloc _, alloc_at rfl⟩ ?_
            clear hk' kb c0 c1 l1 l2
            generalize wr.heap.size = p18 at *
            rintro w12 ⟨hk', kb, kp⟩
            have a0 := hk'.d.lo (k := t) (by rw [lst_length]; exact hlt2)
            have a1 := hk'.d.hi (k := t) (by rw [lst_length]; exact hlt2)
            rw [hat.out] at a0 a1
            refine wp_region_flow1 13 (by kernel_rfl) (by kernel_rfl) (by kernel_rfl) ?_
            apply Exists.intro
            refine ⟨fun ι _ φ hφ => ?_, fun wt hwt => ?_⟩
            · have b0 := fun i => hφ.cell a0 i
              have b1' := fun i => hφ.cell a1 i
              obtain ⟨d0, d1⟩ := hφ.two kp
              obtain ⟨d2, d3⟩ := hφ.two kb
              simp only [List.take_succ_cons, List.take_zero]
              repeat (go_big_quiet_step ((first
                | (go_at_call 26; with_reducible exact flow_call hφ (h1.out _))
                | (go_at_call 26; with_reducible exact flow_call hφ (h2'.out _)))))
              exact wpQuiet_nil rfl
            replace hk' := hk'.up hwt
            replace kb := kb.up hwt
            clear hwt a0 a1 kp
            simp only [List.drop_succ_cons, List.drop_zero]
            have s0 := hk'.d.lo (k := t) (by rw [lst_length]; exact hlt2)
            have s1' := hk'.d.hi (k := t) (by rw [lst_length]; exact hlt2)
            have f0 := hk'.d.free (t * 2)
            have f1 := hk'.d.free (t * 2 + 1)
            replace hk' := hk'.put hwg hgq' hlt2 z hset.out
            replace kb := kb.far' (b := b) (c := g) (i := t * 2) (j := t * 2 + 1) (u := .int .u64 (lo z)) (v := .int .u64 (hi z)) (Ne.symm hgb)
            go_wp2
            exact ⟨⟨t + 1, by omega, by go_num, hk', kb⟩, by simp [intOf]; omega⟩
          · obtain rfl : t = j := by omega
            obtain ⟨hb, hp', hd, hx'⟩ := hk'
            rw [upto_full] at hd
            replace hd := Lib.hid hd
            clear hp' hx' kb
            go_wp2
            go_ret2
            exact .inr ⟨g, Wt, hdiff.out, rfl, hb, hd.out, hWf.out.1, hWf.out.2⟩
end Go.Proofs.YtbpedpkhhjfhjaaDoor
