/-
  TapeSwaps' walk.
-/
import Derived.Test.YtaiffgkiliokfaaTqB
import Derived.Deep.Cut
import Derived.Deep.DeepCutAuto
import Derived.Deep.CutBlock
namespace Go.Proofs.Ytaiffgkiliokfaa
open Go.RowKit F Flow
set_option linter.unusedVariables false
set_option linter.unusedSimpArgs false
attribute [local go_sem] eql_elem

theorem in_pos {x : Ci} (h : x.Good) : 1 ≤ x.inN := by
  have h1 := h.fits.k1
  have h5 := h.fits.k5
  unfold Ci.inN
  by_cases k1 : x.k = 1
  · rw [if_pos k1]; omega
  · rw [if_neg k1]
    by_cases k2 : x.k = 2
    · have := h.fits.b (.inl k2)
      rw [if_pos k2]; omega
    · rw [if_neg k2]
      have hl := h.fits.l (by omega)
      by_cases k3 : x.k = 3
      · have := h.fits.b (.inr k3)
        rw [if_pos k3]
        have := Nat.mul_le_mul (show 1 ≤ x.b.toNat by omega) (show 1 ≤ x.l.toNat by omega)
        omega
      · rw [if_neg k3]
        split <;> omega
theorem RowsAt.far {w : World} {l : List (Nat × List Int)} (h : RowsAt w l) {g : Nat} (hg : ∀ p, p ∈ l → p.1 ≠ g) (u v : Value) : RowsAt ((w.setCell ⟨g, 0, none⟩ u).setCell ⟨g, 1, none⟩ v) l := fun p hp => store2_far (h p hp) (hg p hp)
-- A vector cut: its shares' block.
-- Up to what the second ones are.
theorem in_zip_add (f : Int) (xs ys : List Int) : InF f (List.zipWith (add f) xs ys) := fun z hz => by
  induction xs generalizing ys with
  | nil => simp at hz
  | cons x xs ih =>
    cases ys with
    | nil => simp at hz
    | cons y ys =>
      rw [List.zipWith_cons_cons, List.mem_cons] at hz
      rcases hz with rfl | hz
      · exact add_bound f x y
      · exact ih ys hz
set_option maxRecDepth 20000 in
set_option maxHeartbeats 8000000 in
theorem swaps_true (K F B L W C : Int) (x1 x2 x3 x4 x5 : List Int) (A1 A2 A3 A4 A5 : Option Addr) (N1 N2 N3 N4 N5 d1 d2 d3 d4 d5 : Nat) (e1 : x1.length = N1) (e2 : x2.length = N2) (e3 : x3.length = N3) (e4 : x4.length = N4) (e5 : x5.length = N5)
    (o1 : ElemsOK x1) (o2 : ElemsOK x2) (o3 : ElemsOK x3) (o4 : ElemsOK x4) (o5 : ElemsOK x5) (m1 : N1 ≤ maxLen) (m2 : N2 ≤ maxLen) (m3 : N3 ≤ maxLen) (m4 : N4 ≤ maxLen) (m5 : N5 ≤ maxLen)
    (k0 : 0 ≤ K) (k1 : K ≤ 255) (f0 : 0 ≤ F) (f1 : F ≤ 255) (b0 : 0 ≤ B) (b1 : B ≤ 255) (l0 : 0 ≤ L) (l1 : L ≤ 255) (w0 : 0 ≤ W) (w1 : W ≤ 255) (c0 : 0 ≤ C) (c1 : C ≤ 255) (w : World)
    (hA1 : ElemsAt w A1 x1) (hA2 : ElemsAt w A2 x2) (hA3 : ElemsAt w A3 x3) (hA4 : ElemsAt w A4 x4) (hA5 : ElemsAt w A5 x5) :
    Calls Try.prog 3 #[svl K F B L W C, .slice A1 N1 d1, .slice A2 N2 d2, .slice A3 N3 d3, .slice A4 N4 d4, .slice A5 N5 d5, .bool true] w fun e w' => e = .returned (.bool true) ∧ Below w.heap.size w w' := by
  have hAw := Lib.hid (fun w => tawake w)
  have hS := Lib.hid (fun w => small_any K F B L W C k0 k1 f0 f1 b0 b1 l0 l1 w0 w1 c0 c1 w)
  obtain ⟨X, hX⟩ : ∃ X, smallC K F B L W C = X := ⟨_, rfl⟩
  have hXg : X.Good := by rw [← hX]; exact small_good _ _ _ _ _ _
  rw [hX] at hS
  clear hX k0 k1 f0 f1 b0 b1 l0 l1 w0 w1 c0 c1
  have hIn := fun w => inup_any X hXg w
  have hip := in_pos hXg
  have hle := hXg.fits.in_le
  obtain ⟨I, hI⟩ : ∃ I, X.inN = I := ⟨_, rfl⟩
  rw [hI] at hIn hip hle
  have hva := fun w => fval_yes X.f hXg.f w
  have had := add_by hXg.f
  have hsu := sub_by hXg.f
  have hIy : InYes X.f := by rcases hXg.f with e | e <;> rw [e]; exact inYes1; exact inYes2
  have hone := Lib.hid (fun w => fone_any X.f hXg.f w)
  have zf : IntKind.i64.wrap X.f = X.f := by rcases hXg.f with e | e <;> rw [e] <;> rfl
  have hav := Lib.hid (fun (w : World) (A B : Option Addr) (ca cb : Nat) (us vs : List Int) (hu : us.length = I) (hv : vs.length = I) (iu : InF X.f us) (iv : InF X.f vs) (ha : ElemsAt w A us) (hb : ElemsAt w B vs) => (by
    have h9 := faddvec_any X.f (add X.f) us vs A B ca cb iu.ok iv.ok (by omega) (hu.trans hv.symm) hva had w ha hb
    rw [hu, hv] at h9
    exact h9 : Calls Try.prog 10 #[.int .u8 X.f, .slice A I ca, .slice B I cb] w fun e w' => ∃ g, e = .returned (.tuple #[.slice (some ⟨g, 0, none⟩) I I, .int .i64 0]) ∧ Below w.heap.size w w' ∧ w.heap.size ≤ g ∧ Row w' g (List.zipWith (add X.f) us vs)))
  have hsv := Lib.hid (fun (w : World) (A B : Option Addr) (ca cb : Nat) (us vs : List Int) (hu : us.length = I) (hv : vs.length = I) (iu : InF X.f us) (iv : InF X.f vs) (ha : ElemsAt w A us) (hb : ElemsAt w B vs) => (by
    have h9 := fsubvec_any X.f (sub X.f) us vs A B ca cb iu.ok iv.ok (by omega) (hu.trans hv.symm) hva hsu w ha hb
    rw [hu, hv] at h9
    exact h9 : Calls Try.prog 11 #[.int .u8 X.f, .slice A I ca, .slice B I cb] w fun e w' => ∃ g, e = .returned (.tuple #[.slice (some ⟨g, 0, none⟩) I I, .int .i64 0]) ∧ Below w.heap.size w w' ∧ w.heap.size ≤ g ∧ Row w' g (List.zipWith (sub X.f) us vs)))
  have hsp := Lib.hid (fun (w : World) (a b : Nat) (us vs : List Int) (hu : us.length = I) (hv : vs.length = I) (iu : InF X.f us) (iv : InF X.f vs) (ha : Row w a us) (hb : Row w b vs) =>
    split_ok X.f us vs (some ⟨a, 0, none⟩) (some ⟨b, 0, none⟩) I I I hu hv (by omega) iu iv hIy (fun h => by cases h) hva hsu w ha.elems hb.elems)
  have s1 := fun h w hA => somel_1 X.f x1 A1 N1 d1 I e1 h (by omega) o1 w hA
  have s2 := fun h w hA => somel_2 X.f x2 A2 N2 d2 I e2 h (by omega) o2 w hA
  have s3 := fun h w hA => somel_1 X.f x3 A3 N3 d3 I e3 h (by omega) o3 w hA
  have s4 := fun h w hA => somel_1 X.f x4 A4 N4 d4 I e4 h (by omega) o4 w hA
  have s5 := fun h w hA => somel_3 X.f x5 A5 N5 d5 I e5 h (by omega) o5 w hA
  replace s1 := Lib.hid s1
  replace s2 := Lib.hid s2
  replace s3 := Lib.hid s3
  replace s4 := Lib.hid s4
  replace s5 := Lib.hid s5
  have hXn := Lib.hid hI
  replace hXg := Lib.hid hXg
  replace hA1 := Lib.hid hA1
  replace hA2 := Lib.hid hA2
  replace hA3 := Lib.hid hA3
  replace hA4 := Lib.hid hA4
  replace hA5 := Lib.hid hA5
  replace hIn := Lib.hid hIn
  unfold svl
  unfold cvl at hIn hS
  unfold maxLen at m1 m2 m3 m4 m5
  clear hI hva had hsu hIy e1 e2 e3 e4 e5 o1 o2 o3 o4 o5
  go_enter Try.func3, Try.ntmps3
  go_wp2_with fail
  refine name_calls (fun w1 => Below w.heap.size w w1 ∧ w1.heap[w.heap.size]? = some (.cells #[.int .u8 K, .int .u8 F, .int .u8 B, .int .u8 L, .int .u8 W, .int .u8 C] 23 (0, 0))) ⟨(Below.refl _ _).alloc (Nat.le_refl _) _, alloc_at rfl⟩ ?_
  rintro w1 ⟨hb, ks⟩
  refine call_then (hAw.out _) ?_
  intro w2 hw
  replace ks := keeps hw ks
  replace hb := below_next hb hb.size hw
  clear hw hAw
  by_cases h1 : 30 < N1
  · have n1 : (30 : Int) < (N1 : Int) := by omega
    go_wp2
    go_ret
    exact ⟨rfl, hb⟩
  have n1 : ¬ (30 : Int) < (N1 : Int) := by omega
  by_cases h2 : 30 < N2
  · have n2 : (30 : Int) < (N2 : Int) := by omega
    go_wp2
    go_ret
    exact ⟨rfl, hb⟩
  have n2 : ¬ (30 : Int) < (N2 : Int) := by omega
  by_cases h3 : 30 < N3
  · have n3 : (30 : Int) < (N3 : Int) := by omega
    go_wp2
    go_ret
    exact ⟨rfl, hb⟩
  have n3 : ¬ (30 : Int) < (N3 : Int) := by omega
  by_cases h4 : 30 < N4
  · have n4 : (30 : Int) < (N4 : Int) := by omega
    go_wp2
    go_ret
    exact ⟨rfl, hb⟩
  have n4 : ¬ (30 : Int) < (N4 : Int) := by omega
  by_cases h5 : 30 < N5
  · have n5 : (30 : Int) < (N5 : Int) := by omega
    go_wp2
    go_ret
    exact ⟨rfl, hb⟩
  have n5 : ¬ (30 : Int) < (N5 : Int) := by omega
  replace s1 := Lib.hid (s1.out (by omega))
  replace s2 := Lib.hid (s2.out (by omega))
  replace s3 := Lib.hid (s3.out (by omega))
  replace s4 := Lib.hid (s4.out (by omega))
  replace s5 := Lib.hid (s5.out (by omega))
  obtain ⟨t0, t1, t2, t3, t4, t5⟩ := blk6 ks
  go_wp2_with fail
  refine call_then (hS.out _) ?_
  intro w3 hw
  replace hb := below_next hb hb.size hw
  clear t0 t1 t2 t3 t4 t5 hw h1 h2 h3 h4 h5 n1 n2 n3 n4 n5 hS ks
  go_upto_region 6 with (fail)
  refine name_wp (fun w4 => Below w.heap.size w w4 ∧ w4.heap[w3.heap.size]? = some (.cells #[.int .u8 X.k, .int .u8 X.f, .int .i64 X.b, .int .i64 X.l, .int .i64 X.w, .int .i64 X.c] 29 (0, 0))) ⟨hb.alloc hb.size _, alloc_at rfl⟩ ?_
  clear hb
  generalize w3.heap.size = px at *
  rintro w4 ⟨hb, kz⟩
  clear w1 w2 w3
  obtain ⟨t0, t1, t2, t3, t4, t5⟩ := blk6 kz
  go_upto_region 7 with (go_quiet (fail))
  refine name_wp (fun v => Below w.heap.size w v ∧ v.heap[px]? = some (.cells #[.int .u8 X.k, .int .u8 X.f, .int .i64 X.b, .int .i64 X.l, .int .i64 X.w, .int .i64 X.c] 29 (0, 0))) ⟨below_drewN hb _, kz⟩ ?_
  clear t0 t1 t2 t3 t4 t5 hb kz
  rintro w5 ⟨hb, kz⟩
  obtain ⟨t0, t1, t2, t3, t4, t5⟩ := blk6 kz
  go_wp2_with fail
  clear t0 t1 t2 t3 t4 t5
  refine call_then (hIn.out _) ?_
  intro w5 hw
  replace hb := below_next hb hb.size hw
  replace kz := keeps hw kz
  clear hw hIn
  have hR := RowsAt.nil w5
  go_wp2_with fail
  refine (s1.out _ (hA1.out.up hb)).mono ?_
  rintro e v ⟨g1, xs, rfl, hw, hr, lx, ix⟩
  replace hb := below_next hb hb.size hw
  try replace kz := keeps hw kz
  replace hR := (hR.up hw).cons hr
  clear hw hr
  go_wp2_with fail
  refine (s2.out _ (hA2.out.up hb)).mono ?_
  rintro e v ⟨g2, ys, rfl, hw, hr, ly, iy⟩
  replace hb := below_next hb hb.size hw
  try replace kz := keeps hw kz
  replace hR := (hR.up hw).cons hr
  clear hw hr
  go_wp2_with fail
  refine (s3.out _ (hA3.out.up hb)).mono ?_
  rintro e v ⟨g3, zs, rfl, hw, hr, lz, iz⟩
  replace hb := below_next hb hb.size hw
  try replace kz := keeps hw kz
  replace hR := (hR.up hw).cons hr
  clear hw hr
  clear s1 s2 s3 hA1 hA2 hA3
  replace lx := Lib.hid lx
  replace ly := Lib.hid ly
  replace lz := Lib.hid lz
  have q1 := fun w A B ha hb => hav.out w A B I I xs zs lx.out lz.out ix iz ha hb
  have q2 := fun w A B ha hb => hsv.out w A B I I ys zs ly.out lz.out iy iz ha hb
  have lo1 := Lib.hid ((zip_length (op := add X.f) (lx.out.trans lz.out.symm)).trans lx.out)
  have lo2 := Lib.hid ((zip_length (op := sub X.f) (ly.out.trans lz.out.symm)).trans ly.out)
  have io1 : InF X.f (List.zipWith (add X.f) xs zs) := in_zip_add _ _ _
  have io2 := InF.zip (f := X.f) ys zs
  replace q1 := Lib.hid q1
  replace q2 := Lib.hid q2
  obtain ⟨os, hos⟩ : ∃ os, List.zipWith (add X.f) xs zs = os := ⟨_, rfl⟩
  obtain ⟨us, hus⟩ : ∃ us, List.zipWith (sub X.f) ys zs = us := ⟨_, rfl⟩
  rw [hos] at q1 lo1 io1
  rw [hus] at q2 lo2 io2
  replace hos := Lib.hid hos
  replace hus := Lib.hid hus
  go_wp2_with fail
  refine (q1.out _ _ _ (hR.at_ (g := g1) (by simp)) (hR.at_ (g := g3) (by simp))).mono ?_
  rintro e w6 ⟨g4, rfl, hw, -, hr⟩
  replace hb := below_next hb hb.size hw
  replace hR := (hR.up hw).cons hr
  replace kz := keeps hw kz
  clear hw hr q1
  go_wp2_with fail
  refine (q2.out _ _ _ (hR.at_ (g := g2) (by simp)) (hR.at_ (g := g3) (by simp))).mono ?_
  rintro e w7 ⟨g5, rfl, hw, hgl, hr5⟩
  have hfar : ∀ p, p ∈ [(g4, os), (g3, zs), (g2, ys), (g1, xs)] → p.1 ≠ g5 := fun p hp => by have := lt_of_get (hR p hp); omega
  have hgz : px ≠ g5 := by have := lt_of_get kz; omega
  have hgw : w.heap.size ≤ g5 := by have := hb.size; omega
  replace hb := below_next hb hb.size hw
  replace hR := hR.up hw
  replace kz := keeps hw kz
  replace hfar := Lib.hid hfar
  clear hw hgl q2
  have c0 := hr5.lo (k := 0) (by rw [lo2.out]; omega)
  have c1 := hr5.hi (k := 0) (by rw [lo2.out]; omega)
  rw [Nat.zero_mul] at c0 c1
  rw [Nat.zero_add] at c1
  have hz := io2.at_ (k := 0) (by rw [lo2.out]; omega)
  have hM := M_lt X.f
  obtain ⟨z, hze⟩ : ∃ z, us.getD 0 0 = z := ⟨_, rfl⟩
  rw [hze] at c0 c1 hz
  have ha1 := (add_by hXg.out.f z 1 hz.1 (by omega) (by omega) (by omega))
  obtain ⟨y, hy⟩ : ∃ y, add X.f z 1 = y := ⟨_, rfl⟩
  rw [hy] at ha1
  have ha2 := ha1.2
  rw [show lo 1 = 1 from rfl, show hi 1 = 0 from rfl] at ha2
  have hyb : 0 ≤ y ∧ y < M X.f := by rw [← hy]; exact add_bound _ _ _
  replace ha2 := Lib.hid ha2
  replace hze := Lib.hid hze
  replace hy := Lib.hid hy
  have hI0 : (0 : Int) < (I : Int) := by omega
  clear ha1 hz hM
  go_upto_region 12 with (fail)
  refine wp_region_flow1 9 (by kernel_rfl) (by kernel_rfl) (by kernel_rfl) ?_
  apply Exists.intro
  refine ⟨fun ι _ φ hφ => ?_, fun wt hwt => ?_⟩
  · have q4 := fun i => hφ.cell c0 i
    have q5 := fun i => hφ.cell c1 i
    simp only [List.take_succ_cons, List.take_zero]
    repeat (go_big_quiet_step ((first
      | (go_at_call 13; with_reducible exact flow_call hφ (hone.out _))
      | (go_at_call 12; with_reducible exact flow_call hφ (ha2.out _)))))
    exact wpQuiet_nil rfl
  replace hb := below_next hb hb.size hwt
  replace hR := hR.up hwt
  replace kz := keeps hwt kz
  replace hr5 := hr5.up hwt
  clear hwt c0 c1
  simp only [List.drop_succ_cons, List.drop_zero]
  have c0 := hr5.lo (k := 0) (by rw [lo2.out]; omega)
  have c1 := hr5.hi (k := 0) (by rw [lo2.out]; omega)
  have f0 := hr5.free 0
  have f1 := hr5.free 1
  rw [Nat.zero_mul] at c0 c1
  rw [Nat.zero_add] at c1
  have hr9 := hr5.set (k := 0) (by rw [lo2.out]; omega) y
  rw [Nat.zero_mul, Nat.zero_add] at hr9
  have hR9 := (hR.far hfar.out (.int .u64 (lo y)) (.int .u64 (hi y))).cons hr9
  have hb9 := below_store2 hb hgw (u := .int .u64 (lo y)) (v := .int .u64 (hi y))
  have kz9 := store2_far (u := .int .u64 (lo y)) (v := .int .u64 (hi y)) kz hgz
  have lo9 : (us.set 0 y).length = I := by rw [List.length_set]; exact lo2.out
  have io9 := io2.set 0 hyb
  have hne : ∀ ps : List Int, (List.zipWith (add X.f) xs ys).getD 0 0 ≠ (List.zipWith (add X.f) os (us.set 0 y)).getD 0 0 := fun _ => by
    rw [zip_getD lx.out ly.out (by omega), zip_getD lo1.out lo9 (by omega), ← hos.out, zip_getD lx.out lz.out (by omega)]
    have e9 : (us.set 0 y).getD 0 0 = y := by
      rw [List.getD_eq_getElem?_getD, List.getElem?_set_self (by rw [lo2.out]; omega)]
      rfl
    rw [e9, ← hy.out, ← hze.out, ← hus.out, zip_getD ly.out lz.out (by omega)]
    exact fun h => other_sum (ix.at_ (by rw [lx.out]; omega)) (iy.at_ (by rw [ly.out]; omega)) (iz.at_ (by rw [lz.out]; omega)) h.symm
  replace hne := Lib.hid (hne [])
  replace hR9 := Lib.hid hR9
  replace hb9 := Lib.hid hb9
  replace kz9 := Lib.hid kz9
  replace lo9 := Lib.hid lo9
  clear hR hb kz hr5 hr9
  go_upto_region 13 with (fail)
  obtain ⟨u9, hu9⟩ : ∃ u9, u9 = us.set 0 y := ⟨_, rfl⟩
  refine name_wp (fun v9 => Below w.heap.size w v9 ∧ RowsAt v9 [(g5, us.set 0 y), (g4, os), (g3, zs), (g2, ys), (g1, xs)] ∧ v9.heap[px]? = some (.cells #[.int .u8 X.k, .int .u8 X.f, .int .i64 X.b, .int .i64 X.l, .int .i64 X.w, .int .i64 X.c] 29 (0, 0))) ⟨hb9.out, hR9.out, kz9.out⟩ ?_
  clear hR9 hb9 kz9 c0 c1 f0 f1
  rintro v9 ⟨hb, hR, kz⟩
  rw [← hu9] at hR lo9 io9 hne
  replace hu9 := Lib.hid hu9
  go_wp2_with fail
  refine (s4.out _ (hA4.out.up hb)).mono ?_
  rintro e v ⟨g6, ps, rfl, hw, hr, lp, ip⟩
  replace hb := below_next hb hb.size hw
  try replace kz := keeps hw kz
  replace hR := (hR.up hw).cons hr
  clear hw hr
  go_wp2_with fail
  refine (s5.out _ (hA5.out.up hb)).mono ?_
  rintro e v ⟨g7, qs, rfl, hw, hr, lq, iq⟩
  replace hb := below_next hb hb.size hw
  try replace kz := keeps hw kz
  replace hR := (hR.up hw).cons hr
  clear hw hr
  clear s4 s5 hA4 hA5
  replace lp := Lib.hid lp
  replace lq := Lib.hid lq
  have hsw := Lib.hid (fun w hR => swap_no X hXg.out xs ys os u9 ps qs g1 g2 g4 g5 g6 g7 I (by omega) (by omega) lx.out ly.out lo1.out lo9.out lp.out lq.out ix iy io1 io9 ip iq hne.out w hR)
  unfold cvl at hsw
  obtain ⟨t0, t1, t2, t3, t4, t5⟩ := blk6 kz
  go_wp2_with fail
  refine call_then (hsw.out _ (fun p hp => hR p (by simp only [List.mem_cons, List.not_mem_nil, or_false] at hp ⊢; rcases hp with rfl | rfl | rfl | rfl | rfl | rfl <;> simp))) ?_
  intro w9 hw
  replace hb := below_next hb hb.size hw
  clear hw hsw t0 t1 t2 t3 t4 t5 hR kz
  go_wp2
  go_ret
  exact ⟨rfl, hb⟩
end Go.Proofs.Ytaiffgkiliokfaa
