/-
  The law's walk: values at the powers of a root: the value at any point.
-/
import Derived.Test.YtbpedpkhhjfhjaaDoorPpD
import Derived.Deep.DeepCutAuto
import Derived.Deep.CutBlock
namespace Go.Proofs.YtbpedpkhhjfhjaaDoor
open Go.RowKit F Flow
set_option linter.unusedVariables false
set_option linter.unusedSimpArgs false
attribute [local go_sem] eql_elem

/-- What the law has at hand. -/
structure LgK (w : World) (G P : Nat → Int) (X gp gq : Nat) (x : Int) (wr : World) : Prop where
  below : Below w.heap.size w wr
  v : Row wr gp (lst G X)
  p : Row wr gq (lst P X)
  x : Holds wr w.heap.size x
theorem LgK.up {w : World} {G P : Nat → Int} {X gp gq : Nat} {x : Int} {w1 w2 : World} (h : LgK w G P X gp gq x w1) (hb : Below w1.heap.size w1 w2) : LgK w G P X gp gq x w2 :=
  ⟨below_next h.below h.below.size hb, h.v.up hb, h.p.up hb, h.x.up hb⟩
set_option maxRecDepth 20000 in
set_option maxHeartbeats 4000000 in
theorem polyLagrange_f (n f x at' : Int) (hF : ∀ w, Calls Tryd.prog 11 #[.int .u8 n] w fun e w' => e = .returned (.int .u8 f) ∧ Below w.heap.size w w') (ft : Ft f) (hR : ∀ m, m ≤ 10 → RootOf f m (rt f m)) (f0 : 0 ≤ f ∧ f ≤ 2) (x0 : 0 ≤ x) (x1 : x < 340282366920938463463374607431768211456) (t0 : 0 ≤ at') (t1 : at' ≤ 255)
    (A : Option Addr) (ls : List Int) (N c : Nat) (hl : ls.length = N) (hm : N ≤ maxLen) (hls : ElemsOK ls) (w : World) (hT : Tabs w) (hA : ElemsAt w A ls) :
    Calls Tryd.prog 6 #[.int .u8 n, .slice A N c, .agg #[.int .u64 (lo x), .int .u64 (hi x)], .int .u8 at'] w fun e w' => e = .returned (.bool true) ∧ Below w.heap.size w w' := by
  have hw8 : IntKind.i64.wrap f = f := IntWalk.i64_in _ (by omega)
  have hpad := Lib.hid (fun w hA => pad_any f ls A N c hl hm hls w hA)
  unfold PadOut at hpad
  have hofx := Lib.hid (of_any f x x0 x1)
  have hz0 : 0 ≤ redu f x ∧ redu f x < M f := ⟨redu_nonneg _ _, redu_lt _ _⟩
  obtain ⟨z, hz⟩ : ∃ z, z = redu f x := ⟨_, rfl⟩
  rw [← hz] at hz0 hofx
  clear hz
  have hMl := M_lt f
  replace hF := Lib.hid hF
  clear hl hm hls x0 x1
  go_enter Tryd.func6, Tryd.ntmps6
  go_wp2_with fail
  refine name_calls (fun w1 => Below w.heap.size w w1 ∧ Holds w1 w.heap.size x) ⟨(Below.refl _ _).alloc (Nat.le_refl _) _, alloc_at rfl⟩ ?_
  rintro w1 ⟨hb, kx⟩
  refine call_then (pawake _ (hT.up hb)) ?_
  intro w2 hb2
  replace hb := below_next hb hb.size hb2
  replace kx := kx.up hb2
  clear hb2
  go_wp2_with fail
  refine call_then (hF.out _) ?_
  intro w2 hb2
  replace hb := below_next hb hb.size hb2
  replace kx := kx.up hb2
  clear hb2
  go_wp2_with fail
  refine call_then (hF.out _) ?_
  intro w2 hb2
  replace hb := below_next hb hb.size hb2
  replace kx := kx.up hb2
  clear hb2
  go_wp2_with fail
  refine (hpad.out _ (hA.up hb)).mono ?_
  rintro e w2 ⟨m, X, gp, hX, hm4, rfl, hb2, hg, hrp⟩
  replace hb := below_next hb hb.size hb2
  have hgw := lt_of_get kx
  replace kx := kx.up hb2
  have hgp : w.heap.size < gp := by omega
  clear hb2 hg hA hpad hgw
  obtain ⟨G, hGe⟩ : ∃ G : Nat → Int, G = fun i => redu f (ls.getD i 0) := ⟨_, rfl⟩
  rw [← hGe] at hrp
  have hG : ∀ t, 0 ≤ G t ∧ G t < M f := fun t => by rw [hGe]; exact ⟨redu_nonneg _ _, redu_lt _ _⟩
  clear hGe
  have hm10 : m ≤ 10 := by omega
  have hX16 : X ≤ 16 := by rw [hX]; exact Nat.pow_le_pow_right (by omega) hm4
  have hX1 : 1 ≤ X := by rw [hX]; exact two_pos m
  have hRm := hR m hm10
  have hPin : ∀ t, 0 ≤ power (mul f) (rt f m) t ∧ power (mul f) (rt f m) t < M f := fun t => by rw [power_eq f _ hRm.lo hRm.hi]; exact mod_in f _
  have hlog := Lib.hid (fun w hT => nlog_pow m hm10 w hT)
  rw [← hX] at hlog
  have hpts := Lib.hid (npoints_any ft m hm10)
  unfold PtsOut at hpts
  rw [show powers (mul f) (rt f m) (2 ^ m) = lst (power (mul f) (rt f m)) X by rw [hX]; rfl, ← hX] at hpts
  have hlz := Lib.hid (fun A c w hT hA => lagrange_any ft m hm10 hRm X hX z hz0.1 (by omega) G hG A c w hT hA)
  have hwz := Lib.hid (weights_any ft m hm10 hRm X hX z hz0.1 (by omega))
  have hlp : Hid (∀ i, i < X → ∀ A c w, Tabs w → ElemsAt w A (lst G X) → Calls Tryd.prog 31 #[.int .u8 f, .slice A X c, .agg #[.int .u64 (lo (power (mul f) (rt f m) i)), .int .u64 (hi (power (mul f) (rt f m) i))]] w fun e w' => e = .returned (.tuple #[.agg #[.int .u64 0, .int .u64 0], .int .i64 12]) ∧ Below w.heap.size w w') := Lib.hid (fun i hi9 A c w hT hA => by
    have hp := hPin i
    refine (lagrange_any ft m hm10 hRm X hX (power (mul f) (rt f m) i) hp.1 (by omega) G hG A c w hT hA).mono ?_
    rintro e w' (⟨_, h1, h2⟩ | ⟨Wt, h1, _⟩)
    · exact ⟨h1, h2⟩
    · exact absurd (redu_of_lt hp.1 hp.2) (h1 i hi9))
  unfold LgOut at hlz
  unfold WtOut at hwz
  rw [redu_of_lt hz0.1 hz0.2] at hlz hwz
  have hcf := Lib.hid (fun A w hT hA => coefs_any ft m hm10 (lst G X) X X hX (lst_length _ _) (lim_f (f := f) hG).ok A w hT hA)
  unfold COut VOut at hcf
  have hY : ∀ j, j < X → Eqm (M f) (Dk f m (fun i => (lst G X).getD i 0) (power (mul f) (rt f m)) m 0 j) (pf (rt f m ^ j) G X) := fun j hj => by
    rw [Dk_congr f m _ (C' := G) (fun t ht => lst_at G (by rw [hX]; exact ht)) m (Nat.le_refl _) 0 j (by rw [Nat.sub_self]; decide)]
    subst hX
    rw [Dk_whole hRm (fun t _ => hG t) hj]
    exact eqm_mod _ _
  have hYin : ∀ j, 0 ≤ Dk f m (fun i => (lst G X).getD i 0) (power (mul f) (rt f m)) m 0 j ∧ Dk f m (fun i => (lst G X).getD i 0) (power (mul f) (rt f m)) m 0 j < M f := fun j => Dk_ok _ _ _ _ _ _ _
  generalize Dk f m (fun i => (lst G X).getD i 0) (power (mul f) (rt f m)) m 0 = Y at *
  have hval : Hid (∀ (pt : Int) (Wt : Nat → Int), 0 ≤ pt ∧ pt < M f → mul f (X : Int) pt = 1 → WtF f m z X Wt → dotv f Wt G X = pf z (fun q => mul f (Y ((X - q) % X)) pt) X % M f) := Lib.hid (by
    intro pt Wt hpt hone hWt
    refine weights_value (W := rt f m) (v := pt) (Y := Y) hG hWt.1 ?_ (fun q _ => mul_eqm f _ _ (hYin _) hpt) hY hX1
    have h2 := hWt.2 pt hpt hone
    rw [redu_of_lt hz0.1 hz0.2] at h2
    exact h2)
  have hdot : Hid (∀ Wt, (∀ t, 0 ≤ Wt t ∧ Wt t < M f) → ∀ A B c d w, ElemsAt w A (lst Wt X) → ElemsAt w B (lst G X) → Calls Tryd.prog 34 #[.int .u8 f, .slice A X c, .slice B X d] w fun e w' => e = .returned (.tuple #[.agg #[.int .u64 (lo (dotv f Wt G X)), .int .u64 (hi (dotv f Wt G X))], .int .i64 0]) ∧ Below w.heap.size w w') := Lib.hid (fun Wt hW A B c d w hA hB => dot_lst ft Wt G X (by omega) hW hG A B c d w hA hB)
  have hrat : Hid (∀ C : Nat → Int, (∀ t, 0 ≤ C t ∧ C t < M f) → ∀ A c w, ElemsAt w A (lst C X) → Calls Tryd.prog 23 #[.int .i64 f, .slice A X c, .agg #[.int .u64 (lo z), .int .u64 (hi z)]] w fun e w' => e = .returned (.agg #[.int .u64 (lo (pf z C X % M f)), .int .u64 (hi (pf z C X % M f))]) ∧ Below w.heap.size w w') := Lib.hid (fun C hC A c w h => by
    have h2 := rat_any f z (lst C X) A X c (lst_length _ _) (by omega) (lst_in (fun t _ => hC t)) hz0.1 hz0.2 w h
    rw [pS_pf] at h2
    exact h2)
  obtain ⟨P, hPe⟩ : ∃ P, P = power (mul f) (rt f m) := ⟨_, rfl⟩
  rw [← hPe] at hpts hlz hwz hlp hPin
  clear hPe hY hYin hRm hR
  replace hX := Lib.hid hX
  have hG' := Lib.hid hG
  clear ft hG hMl
  obtain ⟨a9, ha9⟩ : ∃ a9 : Nat, at' = (a9 : Int) := ⟨at'.toNat, by omega⟩
  obtain ⟨J, hJ⟩ : ∃ J, J = a9 % X := ⟨_, rfl⟩
  have hJl : J < X := by rw [hJ]; exact Nat.mod_lt _ (by omega)
  have hmod : at' % (X : Int) = (J : Int) := by
    rw [ha9, hJ]
    omega
  replace ha9 := Lib.hid ha9
  have n0 : (0 : Int) < (X : Int) := by omega
  have n1 : (J : Int) < (X : Int) := by omega
  have n2 : (0 : Int) ≤ (J : Int) := by omega
  replace hJ := Lib.hid hJ
  go_wp2_with fail
  refine call_then (hlog.out _ (hT.up hb)) ?_
  intro w3 hb2
  replace hb := below_next hb hb.size hb2
  replace kx := kx.up hb2
  replace hrp := hrp.up hb2
  clear hb2 hlog
  go_wp2_with fail
  refine (hpts.out _).mono ?_
  rintro e w4 ⟨gq, rfl, hb2, hgq, hrq⟩
  have hgq2 : w.heap.size < gq := by have := lt_of_get kx; omega
  replace hb := below_next hb hb.size hb2
  replace kx := kx.up hb2
  replace hrp := hrp.up hb2
  clear hb2 hpts hgq
  obtain ⟨s0, s1, s2, s3⟩ := blk2 kx
  go_wp2_with fail
  clear s0 s1 s2 s3
  refine call_then (hofx.out _) ?_
  intro w5 hb2
  replace hb := below_next hb hb.size hb2
  replace kx := kx.up hb2
  replace hrp := hrp.up hb2
  replace hrq := hrq.up hb2
  clear hb2 hofx
  obtain ⟨s0, s1, s2, s3⟩ := blk2 kx
  go_wp2_with fail
  refine name_calls (fun w6 => LgK w G P X gp gq z w6) ⟨below_store2 hb (Nat.le_refl _), hrp.far (by omega), hrq.far (by omega), kx.set _⟩ ?_
  clear hb kx hrp hrq s0 s1 s2 s3
  intro w6 hk
  refine (hlz.out _ _ _ (hT.up hk.below) hk.v.elems).mono ?_
  clear hlz
  rintro e w7 (⟨hpt, rfl, hb2⟩ | ⟨Wt, hno, rfl, hb2, hWF⟩)
  · replace hk := hk.up hb2
    clear hb2 hval hdot hrat hcf
    replace hpt := Lib.hid hpt
    obtain ⟨s0, s1, s2, s3⟩ := blk2 hk.x
    have l3 := lt_of_get hk.x
    have l4 : w.heap.size ≠ w7.heap.size := Nat.ne_of_lt l3
    go_wp2_with fail
    refine name_calls (fun w8 => LgK w G P X gp gq z w8) (hk.up ((Below.refl _ _).alloc (Nat.le_refl _) _)) ?_
    clear hk s0 s1 s2 s3 l3 l4
    intro w8 hk
    refine (hwz.out _).mono ?_
    clear hwz
    rintro e w9 (⟨_, rfl, hb2⟩ | ⟨g, Wt, hno, _⟩)
    · replace hk := hk.up hb2
      clear hb2
      have c0 := hk.p.lo (k := J) (by rw [lst_length]; exact hJl)
      have c1 := hk.p.hi (k := J) (by rw [lst_length]; exact hJl)
      rw [lst_at P hJl] at c0 c1
      have hl3 := Lib.hid (hlp.out J hJl)
      generalize P J = pj at *
      go_wp2_with fail
      refine call_then (hl3.out _ _ _ (hT.up hk.below) hk.v.elems) ?_
      intro w10 hb2
      replace hk := hk.up hb2
      clear hb2 c0 c1 hl3 hlp
      go_wp2
      refine name_wp (fun w11 => LgK w G P X gp gq z w11) (hk.up ((Below.refl _ _).alloc (Nat.le_refl _) _)) ?_
      clear hk
      intro w11 hk
      go_loopw [83] (fun i wr => ∃ t : Nat, t ≤ X ∧ i = .int .i64 (t : Int) ∧ Below w11.heap.size w11 wr ∧ Hid (∀ i', i' < t → P i' ≠ z)) (fun i _ => X - (intOf i).toNat)
      case atStart => exact ⟨0, Nat.zero_le _, rfl, Below.refl _ _, Lib.hid (fun i' h => absurd h (Nat.not_lt_zero _))⟩
      case round =>
        obtain ⟨t, ht, rfl, hv, hno⟩ := hrel
        by_cases hlt : t < X
        · have hk9 := hk.up hv
          have c0 := hk9.p.lo (k := t) (by rw [lst_length]; exact hlt)
          have c1 := hk9.p.hi (k := t) (by rw [lst_length]; exact hlt)
          rw [lst_at P hlt] at c0 c1
          obtain ⟨y, hye⟩ : ∃ y, y = P t := ⟨_, rfl⟩
          rw [← hye] at c0 c1
          replace hye := Lib.hid hye
          have i0 : (0 : Int) ≤ (t : Int) := by omega
          have i1 : (t : Int) < (X : Int) := by omega
          have l1 := World.block_lt_of_cell? _ _ c0
          have l2 : gq ≠ wr.heap.size := Nat.ne_of_lt l1
          go_upto_region 14 with (fail)
          refine name_wp (fun w12 => Below w11.heap.size w11 w12 ∧ Holds w12 w.heap.size z ∧ Holds w12 wr.heap.size y) ⟨hv.alloc hv.size _, hk9.x.alloc _, alloc_at rfl⟩ ?_
          clear hv hk9 c0 c1 l1 l2
          generalize wr.heap.size = p23 at *
          rintro w12 ⟨hv, hk9, ky⟩
          obtain ⟨s0, s1, _, _⟩ := blk2 hk9
          obtain ⟨s2, s3, _, _⟩ := blk2 ky
          have hle := @lohi_eq y z
          by_cases hxy : y = z
          · have hne2 : (y == z) = true := by rw [beq_iff_eq]; exact hxy
            replace hxy := Lib.hid hxy
            rw [hne2] at hle
            clear hne2
            have hb := below_next hk.below hk.below.size hv
            clear hv hk hk9
            go_wp2
            go_ret
            exact ⟨rfl, hb⟩
          · have hne2 : (y == z) = false := by rw [beq_eq_false_iff_ne]; exact hxy
            rw [hne2] at hle
            have hno2 : Hid (∀ i', i' < t + 1 → P i' ≠ z) := Lib.hid (fun i' h => by
              by_cases e : i' = t
              · subst e; rw [← hye.out]; exact hxy
              · exact hno.out i' (by omega))
            clear hne2 hxy
            go_wp2
            exact ⟨⟨t + 1, by omega, by go_num, hv, hno2⟩, by simp [intOf]; omega⟩
        · exfalso
          obtain ⟨i', h1, h2⟩ := hpt.out
          exact hno.out i' (by omega) h2.symm
    · exfalso
      obtain ⟨i', h1, h2⟩ := hpt.out
      exact hno i' h1 h2
  · replace hk := hk.up hb2
    clear hb2
    replace hno := Lib.hid hno
    replace hWF := Lib.hid hWF
    generalize hD1 : dotv f Wt G X = D1 at *
    replace hD1 := Lib.hid hD1
    obtain ⟨s0, s1, s2, s3⟩ := blk2 hk.x
    have l3 := lt_of_get hk.x
    have l4 : w.heap.size ≠ w7.heap.size := Nat.ne_of_lt l3
    go_wp2_with fail
    refine name_calls (fun w8 => LgK w G P X gp gq z w8 ∧ Holds w8 w7.heap.size D1) ⟨hk.up ((Below.refl _ _).alloc (Nat.le_refl _) _), alloc_at rfl⟩ ?_
    clear hk s0 s1 s2 s3 l3 l4
    generalize w7.heap.size = p16 at *
    rintro w8 ⟨hk, k16⟩
    refine (hwz.out _).mono ?_
    clear hwz
    rintro e w9 (⟨⟨i', h1, h2⟩, _⟩ | ⟨g, Wt2, _, rfl, hb2, hr2, hW1, hW2⟩)
    · exact absurd h2 (hno.out i' h1)
    · replace hk := hk.up hb2
      replace k16 := k16.up hb2
      have hd2 := Lib.hid (hdot.out Wt2 hW1)
      have hWF2 : Hid (WtF f m z X Wt2) := Lib.hid ⟨hW1, by rw [redu_of_lt hz0.1 hz0.2]; exact hW2⟩
      clear hb2 hW1 hW2 hdot
      have c0 := hk.p.lo (k := J) (by rw [lst_length]; exact hJl)
      have c1 := hk.p.hi (k := J) (by rw [lst_length]; exact hJl)
      rw [lst_at P hJl] at c0 c1
      have hl3 := Lib.hid (hlp.out J hJl)
      generalize P J = pj at *
      go_wp2_with fail
      refine call_then (hl3.out _ _ _ (hT.up hk.below) hk.v.elems) ?_
      intro w10 hb2
      replace hk := hk.up hb2
      replace k16 := k16.up hb2
      replace hr2 := hr2.up hb2
      clear hb2 c0 c1 hl3 hlp
      go_wp2
      refine name_wp (fun w11 => LgK w G P X gp gq z w11 ∧ Holds w11 p16 D1 ∧ Row w11 g (lst Wt2 X)) ⟨hk.up ((Below.refl _ _).alloc (Nat.le_refl _) _), k16.alloc _, hr2.alloc _⟩ ?_
      clear hk k16 hr2
      rintro w11 ⟨hk, k16, hr2⟩
      go_loopw [83] (fun i wr => ∃ t : Nat, t ≤ X ∧ i = .int .i64 (t : Int) ∧ Below w11.heap.size w11 wr) (fun i _ => X - (intOf i).toNat)
      case atStart => exact ⟨0, Nat.zero_le _, rfl, Below.refl _ _⟩
      case round =>
        obtain ⟨t, ht, rfl, hv⟩ := hrel
        by_cases hlt : t < X
        · have hk9 := hk.up hv
          have c0 := hk9.p.lo (k := t) (by rw [lst_length]; exact hlt)
          have c1 := hk9.p.hi (k := t) (by rw [lst_length]; exact hlt)
          rw [lst_at P hlt] at c0 c1
          obtain ⟨y, hye⟩ : ∃ y, y = P t := ⟨_, rfl⟩
          rw [← hye] at c0 c1
          replace hye := Lib.hid hye
          have i0 : (0 : Int) ≤ (t : Int) := by omega
          have i1 : (t : Int) < (X : Int) := by omega
          have l1 := World.block_lt_of_cell? _ _ c0
          have l2 : gq ≠ wr.heap.size := Nat.ne_of_lt l1
          go_upto_region 14 with (fail)
          refine name_wp (fun w12 => Below w11.heap.size w11 w12 ∧ Holds w12 w.heap.size z ∧ Holds w12 wr.heap.size y) ⟨hv.alloc hv.size _, hk9.x.alloc _, alloc_at rfl⟩ ?_
          clear hv hk9 c0 c1 l1 l2
          generalize wr.heap.size = p23 at *
          rintro w12 ⟨hv, hk9, ky⟩
          obtain ⟨s0, s1, _, _⟩ := blk2 hk9
          obtain ⟨s2, s3, _, _⟩ := blk2 ky
          have hle := @lohi_eq y z
          have hne2 : (y == z) = false := by rw [beq_eq_false_iff_ne, hye.out]; exact fun e => hno.out t hlt e.symm
          rw [hne2] at hle
          clear hne2
          go_wp2
          exact ⟨⟨t + 1, by omega, by go_num, hv⟩, by simp [intOf]; omega⟩
        · obtain rfl : t = X := by omega
          replace hk := hk.up hv
          replace k16 := k16.up hv
          replace hr2 := hr2.up hv
          clear hv hno hlt
          go_wp2_with fail
          refine (hcf.out _ _ (hT.up hk.below) hk.v.elems).mono ?_
          rintro e w12 ⟨pt, p0, p1, hone, gc, rfl, hb2, _, hrc⟩
          replace hk := hk.up hb2
          replace k16 := k16.up hb2
          replace hr2 := hr2.up hb2
          have v1 := hval.out pt Wt ⟨p0, p1⟩ hone hWF.out
          have v2 := hval.out pt Wt2 ⟨p0, p1⟩ hone hWF2.out
          rw [hD1.out] at v1
          rw [v2] at hd2
          rw [v1] at k16
          have hra := Lib.hid (hrat.out (fun q => mul f (Y ((t - q) % t)) pt) (fun q => mul_bound f _ _))
          generalize pf z (fun q => mul f (Y ((t - q) % t)) pt) t % M f = Q at *
          generalize (fun q => mul f (Y ((t - q) % t)) pt) = Cf at *
          clear hb2 v1 v2 hone p0 p1 hval hrat hcf hWF hWF2 hD1
          go_wp2_with fail
          refine call_then (hd2.out _ _ _ _ _ hr2.elems hk.v.elems) ?_
          intro w13 hb2
          replace hk := hk.up hb2
          replace k16 := k16.up hb2
          replace hrc := hrc.up hb2
          clear hb2 hd2 hr2
          go_wp2
          refine name_wp (fun w14 => LgK w G P t gp gq z w14 ∧ Holds w14 p16 Q ∧ Holds w14 w13.heap.size Q ∧ Row w14 gc (lst Cf t)) ⟨hk.up ((Below.refl _ _).alloc (Nat.le_refl _) _), k16.alloc _, alloc_at rfl, hrc.alloc _⟩ ?_
          clear hk k16 hrc
          generalize w13.heap.size = p26 at *
          rintro w14 ⟨hk, k16, k26, hrc⟩
          refine wp_region_flow0 (by kernel_rfl) (by kernel_rfl) ?_
          intro ι _ φ hφ
          obtain ⟨d0, d1⟩ := hφ.two hk.x
          obtain ⟨d2, d3⟩ := hφ.two k16
          obtain ⟨d4, d5⟩ := hφ.two k26
          have hcc := fun i => (hrc.up (hφ.old i)).elems
          repeat (go_big_quiet_step ((go_at_call 23; exact flow_call hφ (hra.out _ _ _ (hcc _)))))
          refine wpQuiet_nil ?_
          intro w15 hw15
          have hb := below_next hk.below hk.below.size hw15
          clear d0 d1 d2 d3 d4 d5 hcc hφ hk k16 k26 hrc
          go_wp2
          go_ret
          exact ⟨rfl, hb⟩
end Go.Proofs.YtbpedpkhhjfhjaaDoor
