/-
  TapeSwaps' walk, where the sums are the same.
-/
import Derived.Test.YtaiffgkiliokfaaTqC
namespace Go.Proofs.Ytaiffgkiliokfaa
open Go.RowKit F Flow
set_option linter.unusedVariables false
set_option linter.unusedSimpArgs false
attribute [local go_sem] eql_elem

set_option maxRecDepth 20000 in
set_option maxHeartbeats 8000000 in
theorem swaps_false (K F B L W C : Int) (x1 x2 x3 x4 x5 : List Int) (A1 A2 A3 A4 A5 : Option Addr) (N1 N2 N3 N4 N5 d1 d2 d3 d4 d5 : Nat) (e1 : x1.length = N1) (e2 : x2.length = N2) (e3 : x3.length = N3) (e4 : x4.length = N4) (e5 : x5.length = N5)
    (o1 : ElemsOK x1) (o2 : ElemsOK x2) (o3 : ElemsOK x3) (o4 : ElemsOK x4) (o5 : ElemsOK x5) (m1 : N1 ≤ maxLen) (m2 : N2 ≤ maxLen) (m3 : N3 ≤ maxLen) (m4 : N4 ≤ maxLen) (m5 : N5 ≤ maxLen)
    (k0 : 0 ≤ K) (k1 : K ≤ 255) (f0 : 0 ≤ F) (f1 : F ≤ 255) (b0 : 0 ≤ B) (b1 : B ≤ 255) (l0 : 0 ≤ L) (l1 : L ≤ 255) (w0 : 0 ≤ W) (w1 : W ≤ 255) (c0 : 0 ≤ C) (c1 : C ≤ 255) (w : World)
    (hA1 : ElemsAt w A1 x1) (hA2 : ElemsAt w A2 x2) (hA3 : ElemsAt w A3 x3) (hA4 : ElemsAt w A4 x4) (hA5 : ElemsAt w A5 x5) :
    Calls Try.prog 3 #[svl K F B L W C, .slice A1 N1 d1, .slice A2 N2 d2, .slice A3 N3 d3, .slice A4 N4 d4, .slice A5 N5 d5, .bool false] w fun e w' => e = .returned (.bool true) ∧ Below w.heap.size w w' := by
  have hAw := Lib.hid (fun w => tawake w)
  have hS := Lib.hid (fun w => small_any K F B L W C k0 k1 f0 f1 b0 b1 l0 l1 w0 w1 c0 c1 w)
  obtain ⟨X, hX⟩ : ∃ X, smallC K F B L W C = X := ⟨_, rfl⟩
  have hXg : X.Good := by rw [← hX]; exact small_good _ _ _ _ _ _
  rw [hX] at hS
  clear hX k0 k1 f0 f1 b0 b1 l0 l1 w0 w1 c0 c1
  have hIn := fun w => inup_any X hXg w
  have hip := in_pos hXg
  have hle := hXg.fits.in_le
  obtain ⟨I, hI⟩ : ∃ I, X.inN = I := ⟨_, rfl⟩
  rw [hI] at hIn hip hle
  have hva := fun w => fval_yes X.f hXg.f w
  have had := add_by hXg.f
  have hsu := sub_by hXg.f
  have hIy : InYes X.f := by rcases hXg.f with e | e <;> rw [e]; exact inYes1; exact inYes2
  have hone := Lib.hid (fun w => fone_any X.f hXg.f w)
  have zf : IntKind.i64.wrap X.f = X.f := by rcases hXg.f with e | e <;> rw [e] <;> rfl
  have hav := Lib.hid (fun (w : World) (A B : Option Addr) (ca cb : Nat) (us vs : List Int) (hu : us.length = I) (hv : vs.length = I) (iu : InF X.f us) (iv : InF X.f vs) (ha : ElemsAt w A us) (hb : ElemsAt w B vs) => (by
    have h9 := faddvec_any X.f (add X.f) us vs A B ca cb iu.ok iv.ok (by omega) (hu.trans hv.symm) hva had w ha hb
    rw [hu, hv] at h9
    exact h9 : Calls Try.prog 10 #[.int .u8 X.f, .slice A I ca, .slice B I cb] w fun e w' => ∃ g, e = .returned (.tuple #[.slice (some ⟨g, 0, none⟩) I I, .int .i64 0]) ∧ Below w.heap.size w w' ∧ w.heap.size ≤ g ∧ Row w' g (List.zipWith (add X.f) us vs)))
  have hsv := Lib.hid (fun (w : World) (A B : Option Addr) (ca cb : Nat) (us vs : List Int) (hu : us.length = I) (hv : vs.length = I) (iu : InF X.f us) (iv : InF X.f vs) (ha : ElemsAt w A us) (hb : ElemsAt w B vs) => (by
    have h9 := fsubvec_any X.f (sub X.f) us vs A B ca cb iu.ok iv.ok (by omega) (hu.trans hv.symm) hva hsu w ha hb
    rw [hu, hv] at h9
    exact h9 : Calls Try.prog 11 #[.int .u8 X.f, .slice A I ca, .slice B I cb] w fun e w' => ∃ g, e = .returned (.tuple #[.slice (some ⟨g, 0, none⟩) I I, .int .i64 0]) ∧ Below w.heap.size w w' ∧ w.heap.size ≤ g ∧ Row w' g (List.zipWith (sub X.f) us vs)))
  have hsp := Lib.hid (fun (w : World) (a b : Nat) (us vs : List Int) (hu : us.length = I) (hv : vs.length = I) (iu : InF X.f us) (iv : InF X.f vs) (ha : Row w a us) (hb : Row w b vs) =>
    split_ok X.f us vs (some ⟨a, 0, none⟩) (some ⟨b, 0, none⟩) I I I hu hv (by omega) iu iv hIy (fun h => by cases h) hva hsu w ha.elems hb.elems)
  have s1 := fun h w hA => somel_1 X.f x1 A1 N1 d1 I e1 h (by omega) o1 w hA
  have s2 := fun h w hA => somel_2 X.f x2 A2 N2 d2 I e2 h (by omega) o2 w hA
  have s3 := fun h w hA => somel_1 X.f x3 A3 N3 d3 I e3 h (by omega) o3 w hA
  have s4 := fun h w hA => somel_1 X.f x4 A4 N4 d4 I e4 h (by omega) o4 w hA
  have s5 := fun h w hA => somel_3 X.f x5 A5 N5 d5 I e5 h (by omega) o5 w hA
  replace s1 := Lib.hid s1
  replace s2 := Lib.hid s2
  replace s3 := Lib.hid s3
  replace s4 := Lib.hid s4
  replace s5 := Lib.hid s5
  have hXn := Lib.hid hI
  replace hXg := Lib.hid hXg
  replace hA1 := Lib.hid hA1
  replace hA2 := Lib.hid hA2
  replace hA3 := Lib.hid hA3
  replace hA4 := Lib.hid hA4
  replace hA5 := Lib.hid hA5
  replace hIn := Lib.hid hIn
  unfold svl
  unfold cvl at hIn hS
  unfold maxLen at m1 m2 m3 m4 m5
  clear hI hva had hsu hIy e1 e2 e3 e4 e5 o1 o2 o3 o4 o5
  go_enter Try.func3, Try.ntmps3
  go_wp2_with fail
  refine name_calls (fun w1 => Below w.heap.size w w1 ∧ w1.heap[w.heap.size]? = some (.cells #[.int .u8 K, .int .u8 F, .int .u8 B, .int .u8 L, .int .u8 W, .int .u8 C] 23 (0, 0))) ⟨(Below.refl _ _).alloc (Nat.le_refl _) _, alloc_at rfl⟩ ?_
  rintro w1 ⟨hb, ks⟩
  refine call_then (hAw.out _) ?_
  intro w2 hw
  replace ks := keeps hw ks
  replace hb := below_next hb hb.size hw
  clear hw hAw
  by_cases h1 : 30 < N1
  · have n1 : (30 : Int) < (N1 : Int) := by omega
    go_wp2
    go_ret
    exact ⟨rfl, hb⟩
  have n1 : ¬ (30 : Int) < (N1 : Int) := by omega
  by_cases h2 : 30 < N2
  · have n2 : (30 : Int) < (N2 : Int) := by omega
    go_wp2
    go_ret
    exact ⟨rfl, hb⟩
  have n2 : ¬ (30 : Int) < (N2 : Int) := by omega
  by_cases h3 : 30 < N3
  · have n3 : (30 : Int) < (N3 : Int) := by omega
    go_wp2
    go_ret
    exact ⟨rfl, hb⟩
  have n3 : ¬ (30 : Int) < (N3 : Int) := by omega
  by_cases h4 : 30 < N4
  · have n4 : (30 : Int) < (N4 : Int) := by omega
    go_wp2
    go_ret
    exact ⟨rfl, hb⟩
  have n4 : ¬ (30 : Int) < (N4 : Int) := by omega
  by_cases h5 : 30 < N5
  · have n5 : (30 : Int) < (N5 : Int) := by omega
    go_wp2
    go_ret
    exact ⟨rfl, hb⟩
  have n5 : ¬ (30 : Int) < (N5 : Int) := by omega
  replace s1 := Lib.hid (s1.out (by omega))
  replace s2 := Lib.hid (s2.out (by omega))
  replace s3 := Lib.hid (s3.out (by omega))
  replace s4 := Lib.hid (s4.out (by omega))
  replace s5 := Lib.hid (s5.out (by omega))
  obtain ⟨t0, t1, t2, t3, t4, t5⟩ := blk6 ks
  go_wp2_with fail
  refine call_then (hS.out _) ?_
  intro w3 hw
  replace hb := below_next hb hb.size hw
  clear t0 t1 t2 t3 t4 t5 hw h1 h2 h3 h4 h5 n1 n2 n3 n4 n5 hS ks
  go_upto_region 6 with (fail)
  refine name_wp (fun w4 => Below w.heap.size w w4 ∧ w4.heap[w3.heap.size]? = some (.cells #[.int .u8 X.k, .int .u8 X.f, .int .i64 X.b, .int .i64 X.l, .int .i64 X.w, .int .i64 X.c] 29 (0, 0))) ⟨hb.alloc hb.size _, alloc_at rfl⟩ ?_
  clear hb
  generalize w3.heap.size = px at *
  rintro w4 ⟨hb, kz⟩
  clear w1 w2 w3
  obtain ⟨t0, t1, t2, t3, t4, t5⟩ := blk6 kz
  go_upto_region 7 with (go_quiet (fail))
  refine name_wp (fun v => Below w.heap.size w v ∧ v.heap[px]? = some (.cells #[.int .u8 X.k, .int .u8 X.f, .int .i64 X.b, .int .i64 X.l, .int .i64 X.w, .int .i64 X.c] 29 (0, 0))) ⟨below_drewN hb _, kz⟩ ?_
  clear t0 t1 t2 t3 t4 t5 hb kz
  rintro w5 ⟨hb, kz⟩
  obtain ⟨t0, t1, t2, t3, t4, t5⟩ := blk6 kz
  go_wp2_with fail
  clear t0 t1 t2 t3 t4 t5
  refine call_then (hIn.out _) ?_
  intro w5 hw
  replace hb := below_next hb hb.size hw
  replace kz := keeps hw kz
  clear hw hIn
  have hR := RowsAt.nil w5
  go_wp2_with fail
  refine (s1.out _ (hA1.out.up hb)).mono ?_
  rintro e v ⟨g1, xs, rfl, hw, hr, lx, ix⟩
  replace hb := below_next hb hb.size hw
  try replace kz := keeps hw kz
  replace hR := (hR.up hw).cons hr
  clear hw hr
  go_wp2_with fail
  refine (s2.out _ (hA2.out.up hb)).mono ?_
  rintro e v ⟨g2, ys, rfl, hw, hr, ly, iy⟩
  replace hb := below_next hb hb.size hw
  try replace kz := keeps hw kz
  replace hR := (hR.up hw).cons hr
  clear hw hr
  go_wp2_with fail
  refine (s3.out _ (hA3.out.up hb)).mono ?_
  rintro e v ⟨g3, zs, rfl, hw, hr, lz, iz⟩
  replace hb := below_next hb hb.size hw
  try replace kz := keeps hw kz
  replace hR := (hR.up hw).cons hr
  clear hw hr
  clear s1 s2 s3 hA1 hA2 hA3
  replace lx := Lib.hid lx
  replace ly := Lib.hid ly
  replace lz := Lib.hid lz
  have q1 := fun w A B ha hb => hav.out w A B I I xs zs lx.out lz.out ix iz ha hb
  have q2 := fun w A B ha hb => hsv.out w A B I I ys zs ly.out lz.out iy iz ha hb
  have lo1 := Lib.hid ((zip_length (op := add X.f) (lx.out.trans lz.out.symm)).trans lx.out)
  have lo2 := Lib.hid ((zip_length (op := sub X.f) (ly.out.trans lz.out.symm)).trans ly.out)
  have io1 : InF X.f (List.zipWith (add X.f) xs zs) := in_zip_add _ _ _
  have io2 := InF.zip (f := X.f) ys zs
  replace q1 := Lib.hid q1
  replace q2 := Lib.hid q2
  obtain ⟨os, hos⟩ : ∃ os, List.zipWith (add X.f) xs zs = os := ⟨_, rfl⟩
  obtain ⟨us, hus⟩ : ∃ us, List.zipWith (sub X.f) ys zs = us := ⟨_, rfl⟩
  rw [hos] at q1 lo1 io1
  rw [hus] at q2 lo2 io2
  replace hos := Lib.hid hos
  replace hus := Lib.hid hus
  go_wp2_with fail
  refine (q1.out _ _ _ (hR.at_ (g := g1) (by simp)) (hR.at_ (g := g3) (by simp))).mono ?_
  rintro e w6 ⟨g4, rfl, hw, -, hr⟩
  replace hb := below_next hb hb.size hw
  replace hR := (hR.up hw).cons hr
  replace kz := keeps hw kz
  clear hw hr q1
  go_wp2_with fail
  refine (q2.out _ _ _ (hR.at_ (g := g2) (by simp)) (hR.at_ (g := g3) (by simp))).mono ?_
  rintro e w7 ⟨g5, rfl, hw, hgl, hr5⟩
  have hfar : ∀ p, p ∈ [(g4, os), (g3, zs), (g2, ys), (g1, xs)] → p.1 ≠ g5 := fun p hp => by have := lt_of_get (hR p hp); omega
  have hgz : px ≠ g5 := by have := lt_of_get kz; omega
  have hgw : w.heap.size ≤ g5 := by have := hb.size; omega
  replace hb := below_next hb hb.size hw
  replace hR := hR.up hw
  replace kz := keeps hw kz
  replace hfar := Lib.hid hfar
  clear hw hgl q2
  replace hR := hR.cons hr5
  clear hr5 hfar hgz hgw hone
  go_upto_region 13 with (fail)
  go_wp2_with fail
  refine (s4.out _ (hA4.out.up hb)).mono ?_
  rintro e v ⟨g6, ps, rfl, hw, hr, lp, ip⟩
  replace hb := below_next hb hb.size hw
  try replace kz := keeps hw kz
  replace hR := (hR.up hw).cons hr
  clear hw hr
  go_wp2_with fail
  refine (s5.out _ (hA5.out.up hb)).mono ?_
  rintro e v ⟨g7, qs, rfl, hw, hr, lq, iq⟩
  replace hb := below_next hb hb.size hw
  try replace kz := keeps hw kz
  replace hR := (hR.up hw).cons hr
  clear hw hr
  clear s4 s5 hA4 hA5
  replace lp := Lib.hid lp
  replace lq := Lib.hid lq
  have lf1 := (zip_length (op := sub X.f) (lx.out.trans lp.out.symm)).trans lx.out
  have lg1 := (zip_length (op := sub X.f) (ly.out.trans lq.out.symm)).trans ly.out
  have if1 := InF.zip (f := X.f) xs ps
  have ig1 := InF.zip (f := X.f) ys qs
  obtain ⟨fs, hfs⟩ : ∃ fs, List.zipWith (sub X.f) xs ps = fs := ⟨_, rfl⟩
  obtain ⟨gs, hgs⟩ : ∃ gs, List.zipWith (sub X.f) ys qs = gs := ⟨_, rfl⟩
  rw [hfs] at lf1 if1
  rw [hgs] at lg1 ig1
  have lU := (zip_length (op := sub X.f) (lo1.out.trans lf1.symm)).trans lo1.out
  have lV := (zip_length (op := sub X.f) (lo2.out.trans lg1.symm)).trans lo2.out
  have iU := InF.zip (f := X.f) os fs
  have iV := InF.zip (f := X.f) us gs
  have bU := zip_back X.f os fs (lo1.out.trans lf1.symm) if1
  have bV := zip_back X.f us gs (lo2.out.trans lg1.symm) ig1
  obtain ⟨Us, hUs⟩ : ∃ Us, List.zipWith (sub X.f) os fs = Us := ⟨_, rfl⟩
  obtain ⟨Vs, hVs⟩ : ∃ Vs, List.zipWith (sub X.f) us gs = Vs := ⟨_, rfl⟩
  rw [hUs] at lU iU bU
  rw [hVs] at lV iV bV
  have hsum : List.zipWith (add X.f) xs ys = List.zipWith (add X.f) os us := zip3 (f := X.f) lx.out ly.out lo1.out lo2.out (fun i hi => by
    rw [← hos.out, ← hus.out, zip_getD lx.out lz.out hi, zip_getD ly.out lz.out hi]
    exact (same_sum (ix.at_ (by rw [lx.out]; exact hi)) (iy.at_ (by rw [ly.out]; exact hi)) (iz.at_ (by rw [lz.out]; exact hi))).symm)
  have hsum2 : List.zipWith (add X.f) Us Vs = List.zipWith (add X.f) ps qs := zip3 (f := X.f) lU lV lp.out lq.out (fun i hi => by
    rw [← hUs, ← hVs, zip_getD lo1.out lf1 hi, zip_getD lo2.out lg1 hi, ← hfs, ← hgs, zip_getD lx.out lp.out hi, zip_getD ly.out lq.out hi, ← hos.out, ← hus.out, zip_getD lx.out lz.out hi, zip_getD ly.out lz.out hi]
    exact swap_sum (ix.at_ (by rw [lx.out]; exact hi)) (iy.at_ (by rw [ly.out]; exact hi)) (iz.at_ (by rw [lz.out]; exact hi)) (ip.at_ (by rw [lp.out]; exact hi)) (iq.at_ (by rw [lq.out]; exact hi)))
  have hsw := (fun w hR => swap_yes X hXg.out xs ys os us ps qs g1 g2 g4 g5 g6 g7 I (by omega) lx.out ly.out lo1.out lo2.out lp.out lq.out ix iy io1 io2 ip iq hsum w hR)
  rw [hfs, hgs, hUs, hVs] at hsw
  unfold cvl at hsw
  have c1 := (fun w a b ha hb => hsp.out w a b xs ps lx.out lp.out ix ip ha hb)
  have c2 := (fun w a b ha hb => hsp.out w a b os Us lo1.out lU io1 iU ha hb)
  have c3 := (fun w a b ha hb => hsp.out w a b ys qs ly.out lq.out iy iq ha hb)
  have c4 := (fun w a b ha hb => hsp.out w a b us Vs lo2.out lV io2 iV ha hb)
  unfold Cut at c1 c2 c3 c4
  rw [hfs] at c1
  rw [bU] at c2
  rw [hgs] at c3
  rw [bV] at c4
  have q1 := (fun w A B ca cb ha hb => hav.out w A B ca cb ps qs lp.out lq.out ip iq ha hb)
  have q2 := (fun w A B ca cb ha hb => hav.out w A B ca cb Us Vs lU lV iU iV ha hb)
  have lS := (zip_length (op := add X.f) (lp.out.trans lq.out.symm)).trans lp.out
  rw [hsum2] at q2
  obtain ⟨ss, hss⟩ : ∃ ss, List.zipWith (add X.f) ps qs = ss := ⟨_, rfl⟩
  rw [hss] at q1 q2 lS
  have hI4 : I ≤ 4096 := by omega
  have hw1 := Lib.hid (fun w a b ha hb => same_yes fs (some ⟨a, 0, none⟩) (some ⟨b, 0, none⟩) I I I lf1 hI4 w ha hb)
  have hw2 := Lib.hid (fun w a b ha hb => same_yes gs (some ⟨a, 0, none⟩) (some ⟨b, 0, none⟩) I I I lg1 hI4 w ha hb)
  have hw3 := Lib.hid (fun w a b ha hb => same_yes ss (some ⟨a, 0, none⟩) (some ⟨b, 0, none⟩) I I I lS hI4 w ha hb)
  replace hsw := Lib.hid hsw
  replace c1 := Lib.hid c1
  replace c2 := Lib.hid c2
  replace c3 := Lib.hid c3
  replace c4 := Lib.hid c4
  replace q1 := Lib.hid q1
  replace q2 := Lib.hid q2
  clear hfs hgs hUs hVs hss hsum hsum2 bU bV lf1 lg1 if1 ig1 lU lV iU iV lS hsp hav hos hus ix iy iz ip iq io1 io2 lx ly lz lp lq lo1 lo2 hI4 hXg
  obtain ⟨t0, t1, t2, t3, t4, t5⟩ := blk6 kz
  go_wp2_with fail
  refine (hsw.out _ (fun p hp => hR p (by simp only [List.mem_cons, List.not_mem_nil, or_false] at hp ⊢; rcases hp with rfl | rfl | rfl | rfl | rfl | rfl <;> simp))).mono ?_
  rintro e v ⟨g8, g9, rfl, hw, hr1, hr2⟩
  replace hb := below_next hb hb.size hw
  replace hR := ((hR.up hw).cons hr1).cons hr2
  clear hw hsw t0 t1 t2 t3 t4 t5 kz hr1 hr2
  go_wp2_with fail
  refine (c1.out _ g1 g6 (hR (g1, xs) (by simp)) (hR (g6, ps) (by simp))).mono ?_
  rintro e v ⟨h1, B1, b1, rfl, hw, hr, E1, -⟩
  replace hb := below_next hb hb.size hw
  replace hR := (hR.up hw).cons hr
  try replace E1 := E1.up hw
  try replace E2 := E2.up hw
  try replace E3 := E3.up hw
  try replace k1 := keeps hw k1
  try replace k2 := keeps hw k2
  try replace k3 := keeps hw k3
  clear hw hr
  go_upto_region 18 with (fail)
  have hw := (Below.refl v.heap.size v).alloc (Nat.le_refl _) (.cells #[.slice (some ⟨h1, 0, none⟩) I I, .slice B1 I b1] 44 (0, 0))
  replace hb := below_next hb hb.size hw
  replace hR := hR.up hw
  replace E1 := E1.up hw
  try replace E1 := E1.up hw
  try replace E2 := E2.up hw
  try replace E3 := E3.up hw
  try replace k1 := keeps hw k1
  try replace k2 := keeps hw k2
  try replace k3 := keeps hw k3
  have k1 : (v.alloc (.cells #[.slice (some ⟨h1, 0, none⟩) I I, .slice B1 I b1] 44 (0, 0))).heap[v.heap.size]? = some (.cells #[.slice (some ⟨h1, 0, none⟩) I I, .slice B1 I b1] 44 (0, 0)) := alloc_at rfl
  clear hw
  generalize v.alloc (.cells #[.slice (some ⟨h1, 0, none⟩) I I, .slice B1 I b1] 44 (0, 0)) = uk1 at *
  generalize v.heap.size = pk1 at *
  go_wp2_with fail
  refine (c2.out _ g4 g8 (hR (g4, os) (by simp)) (hR (g8, Us) (by simp))).mono ?_
  rintro e v ⟨h2, B2, b2, rfl, hw, hr, E2, -⟩
  replace hb := below_next hb hb.size hw
  replace hR := (hR.up hw).cons hr
  try replace E1 := E1.up hw
  try replace E2 := E2.up hw
  try replace E3 := E3.up hw
  try replace k1 := keeps hw k1
  try replace k2 := keeps hw k2
  try replace k3 := keeps hw k3
  clear hw hr
  go_upto_region 19 with (fail)
  have hw := (Below.refl v.heap.size v).alloc (Nat.le_refl _) (.cells #[.slice (some ⟨h2, 0, none⟩) I I, .slice B2 I b2] 44 (0, 0))
  replace hb := below_next hb hb.size hw
  replace hR := hR.up hw
  replace E2 := E2.up hw
  try replace E1 := E1.up hw
  try replace E2 := E2.up hw
  try replace E3 := E3.up hw
  try replace k1 := keeps hw k1
  try replace k2 := keeps hw k2
  try replace k3 := keeps hw k3
  have k2 : (v.alloc (.cells #[.slice (some ⟨h2, 0, none⟩) I I, .slice B2 I b2] 44 (0, 0))).heap[v.heap.size]? = some (.cells #[.slice (some ⟨h2, 0, none⟩) I I, .slice B2 I b2] 44 (0, 0)) := alloc_at rfl
  clear hw
  generalize v.alloc (.cells #[.slice (some ⟨h2, 0, none⟩) I I, .slice B2 I b2] 44 (0, 0)) = uk2 at *
  generalize v.heap.size = pk2 at *
  go_wp2_with fail
  refine (c3.out _ g2 g7 (hR (g2, ys) (by simp)) (hR (g7, qs) (by simp))).mono ?_
  rintro e v ⟨h3, B3, b3, rfl, hw, hr, E3, -⟩
  replace hb := below_next hb hb.size hw
  replace hR := (hR.up hw).cons hr
  try replace E1 := E1.up hw
  try replace E2 := E2.up hw
  try replace E3 := E3.up hw
  try replace k1 := keeps hw k1
  try replace k2 := keeps hw k2
  try replace k3 := keeps hw k3
  clear hw hr
  go_upto_region 20 with (fail)
  have hw := (Below.refl v.heap.size v).alloc (Nat.le_refl _) (.cells #[.slice (some ⟨h3, 0, none⟩) I I, .slice B3 I b3] 44 (0, 0))
  replace hb := below_next hb hb.size hw
  replace hR := hR.up hw
  replace E3 := E3.up hw
  try replace E1 := E1.up hw
  try replace E2 := E2.up hw
  try replace E3 := E3.up hw
  try replace k1 := keeps hw k1
  try replace k2 := keeps hw k2
  try replace k3 := keeps hw k3
  have k3 : (v.alloc (.cells #[.slice (some ⟨h3, 0, none⟩) I I, .slice B3 I b3] 44 (0, 0))).heap[v.heap.size]? = some (.cells #[.slice (some ⟨h3, 0, none⟩) I I, .slice B3 I b3] 44 (0, 0)) := alloc_at rfl
  clear hw
  generalize v.alloc (.cells #[.slice (some ⟨h3, 0, none⟩) I I, .slice B3 I b3] 44 (0, 0)) = uk3 at *
  generalize v.heap.size = pk3 at *
  go_wp2_with fail
  refine (c4.out _ g5 g9 (hR (g5, us) (by simp)) (hR (g9, Vs) (by simp))).mono ?_
  rintro e v ⟨h4, B4, b4, rfl, hw, hr, E4, -⟩
  replace hb := below_next hb hb.size hw
  replace hR := (hR.up hw).cons hr
  try replace E1 := E1.up hw
  try replace E2 := E2.up hw
  try replace E3 := E3.up hw
  try replace k1 := keeps hw k1
  try replace k2 := keeps hw k2
  try replace k3 := keeps hw k3
  clear hw hr
  go_upto_region 21 with (fail)
  have hw := (Below.refl v.heap.size v).alloc (Nat.le_refl _) (.cells #[.slice (some ⟨h4, 0, none⟩) I I, .slice B4 I b4] 44 (0, 0))
  replace hb := below_next hb hb.size hw
  replace hR := hR.up hw
  replace E4 := E4.up hw
  try replace E1 := E1.up hw
  try replace E2 := E2.up hw
  try replace E3 := E3.up hw
  try replace k1 := keeps hw k1
  try replace k2 := keeps hw k2
  try replace k3 := keeps hw k3
  have k4 : (v.alloc (.cells #[.slice (some ⟨h4, 0, none⟩) I I, .slice B4 I b4] 44 (0, 0))).heap[v.heap.size]? = some (.cells #[.slice (some ⟨h4, 0, none⟩) I I, .slice B4 I b4] 44 (0, 0)) := alloc_at rfl
  clear hw
  generalize v.alloc (.cells #[.slice (some ⟨h4, 0, none⟩) I I, .slice B4 I b4] 44 (0, 0)) = uk4 at *
  generalize v.heap.size = pk4 at *
  clear c1 c2 c3 c4
  obtain ⟨a0, a1, -, -⟩ := blk2 k1
  obtain ⟨b0, b1, -, -⟩ := blk2 k2
  obtain ⟨c0, c1, -, -⟩ := blk2 k3
  obtain ⟨d0, d1, -, -⟩ := blk2 k4
  go_wp2_with fail
  refine (q1.out _ _ _ _ _ E1 E3).mono ?_
  rintro e v ⟨g10, rfl, hw, -, hr⟩
  replace hb := below_next hb hb.size hw
  replace hR := (hR.up hw).cons hr
  try replace E1 := E1.up hw
  try replace E2 := E2.up hw
  try replace E3 := E3.up hw
  try replace k1 := keeps hw k1
  try replace k2 := keeps hw k2
  try replace k3 := keeps hw k3
  replace E4 := E4.up hw
  replace k4 := keeps hw k4
  clear hw hr q1
  clear a0 a1 b0 b1 c0 c1 d0 d1
  obtain ⟨a0, a1, -, -⟩ := blk2 k1
  obtain ⟨b0, b1, -, -⟩ := blk2 k2
  obtain ⟨c0, c1, -, -⟩ := blk2 k3
  obtain ⟨d0, d1, -, -⟩ := blk2 k4
  go_wp2_with fail
  refine (q2.out _ _ _ _ _ E2 E4).mono ?_
  rintro e v ⟨g11, rfl, hw, -, hr⟩
  replace hb := below_next hb hb.size hw
  replace hR := (hR.up hw).cons hr
  replace k1 := keeps hw k1
  replace k2 := keeps hw k2
  replace k3 := keeps hw k3
  replace k4 := keeps hw k4
  clear hw hr q2 E1 E2 E3 E4
  clear a0 a1 b0 b1 c0 c1 d0 d1
  obtain ⟨a0, a1, -, -⟩ := blk2 k1
  obtain ⟨b0, b1, -, -⟩ := blk2 k2
  obtain ⟨c0, c1, -, -⟩ := blk2 k3
  obtain ⟨d0, d1, -, -⟩ := blk2 k4
  have s1 := Lib.hid (hw1.out _ h1 h2 (hR.at_ (g := h1) (by simp)) (hR.at_ (g := h2) (by simp)))
  go_wp2_with fail
  refine call_then s1.out ?_
  intro u hw
  replace hb := below_next hb hb.size hw
  replace hR := hR.up hw
  replace k1 := keeps hw k1
  replace k2 := keeps hw k2
  replace k3 := keeps hw k3
  replace k4 := keeps hw k4
  clear hw s1
  clear a0 a1 b0 b1 c0 c1 d0 d1
  obtain ⟨a0, a1, -, -⟩ := blk2 k1
  obtain ⟨b0, b1, -, -⟩ := blk2 k2
  obtain ⟨c0, c1, -, -⟩ := blk2 k3
  obtain ⟨d0, d1, -, -⟩ := blk2 k4
  have s1 := Lib.hid (hw2.out _ h3 h4 (hR.at_ (g := h3) (by simp)) (hR.at_ (g := h4) (by simp)))
  go_wp2_with fail
  refine call_then s1.out ?_
  intro u hw
  replace hb := below_next hb hb.size hw
  replace hR := hR.up hw
  replace k1 := keeps hw k1
  replace k2 := keeps hw k2
  replace k3 := keeps hw k3
  replace k4 := keeps hw k4
  clear hw s1
  clear a0 a1 b0 b1 c0 c1 d0 d1
  obtain ⟨a0, a1, -, -⟩ := blk2 k1
  obtain ⟨b0, b1, -, -⟩ := blk2 k2
  obtain ⟨c0, c1, -, -⟩ := blk2 k3
  obtain ⟨d0, d1, -, -⟩ := blk2 k4
  have s1 := Lib.hid (hw3.out _ g10 g11 (hR.at_ (g := g10) (by simp)) (hR.at_ (g := g11) (by simp)))
  go_wp2_with fail
  refine call_then s1.out ?_
  intro u hw
  replace hb := below_next hb hb.size hw
  replace hR := hR.up hw
  replace k1 := keeps hw k1
  replace k2 := keeps hw k2
  replace k3 := keeps hw k3
  replace k4 := keeps hw k4
  clear hw s1
  clear a0 a1 b0 b1 c0 c1 d0 d1
  clear hR k1 k2 k3 k4
  go_wp2
  go_ret
  exact ⟨rfl, hb⟩
end Go.Proofs.Ytaiffgkiliokfaa
