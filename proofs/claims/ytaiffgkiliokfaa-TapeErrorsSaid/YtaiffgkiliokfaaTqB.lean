/-
  Swap: two reports' draws.
-/
import Derived.Test.YtaiffgkiliokfaaTqA
import Derived.Test.YtaiffgkiliokfaaDD
namespace Go.Proofs.Ytaiffgkiliokfaa
open Go.RowKit F Flow
set_option linter.unusedVariables false
set_option linter.unusedSimpArgs false
attribute [local go_sem] eql_elem

theorem RowsAt.lt {w : World} {l : List (Nat × List Int)} (h : RowsAt w l) {p : Nat × List Int} (hp : p ∈ l) : p.1 < w.heap.size := lt_of_get (h p hp)
theorem add_by {f : Int} (h : f = 1 ∨ f = 2) : OpBy 12 f (add f) := by rcases h with e | e <;> rw [e]; exact opBy_add1; exact opBy_add2
theorem sub_by {f : Int} (h : f = 1 ∨ f = 2) : OpBy 30 f (sub f) := by rcases h with e | e <;> rw [e]; exact opBy_sub1; exact opBy_sub2
set_option maxRecDepth 20000 in
set_option maxHeartbeats 4000000 in
theorem swap_yes (X : Ci) (hX : X.Good) (xs ys os us ps qs : List Int) (g1 g2 g3 g4 g5 g6 N : Nat) (hm : N ≤ 4096) (l1 : xs.length = N) (l2 : ys.length = N) (l3 : os.length = N) (l4 : us.length = N) (l5 : ps.length = N) (l6 : qs.length = N)
    (i1 : InF X.f xs) (i2 : InF X.f ys) (i3 : InF X.f os) (i4 : InF X.f us) (i5 : InF X.f ps) (i6 : InF X.f qs) (hs : List.zipWith (add X.f) xs ys = List.zipWith (add X.f) os us) (w : World) (hR : RowsAt w [(g1, xs), (g2, ys), (g3, os), (g4, us), (g5, ps), (g6, qs)]) :
    Calls Try.prog 14 #[cvl X, .slice (some ⟨g1, 0, none⟩) N N, .slice (some ⟨g2, 0, none⟩) N N, .slice (some ⟨g3, 0, none⟩) N N, .slice (some ⟨g4, 0, none⟩) N N, .slice (some ⟨g5, 0, none⟩) N N, .slice (some ⟨g6, 0, none⟩) N N] w fun e w' =>
      ∃ a b, e = .returned (.tuple #[.slice (some ⟨a, 0, none⟩) N N, .slice (some ⟨b, 0, none⟩) N N, .int .i64 0]) ∧ Below w.heap.size w w' ∧ Row w' a (List.zipWith (sub X.f) os (List.zipWith (sub X.f) xs ps)) ∧ Row w' b (List.zipWith (sub X.f) us (List.zipWith (sub X.f) ys qs)) := by
  obtain ⟨f, hfe⟩ : ∃ f, X.f = f := ⟨_, rfl⟩
  have hval := fun w => fval_yes X.f hX.f w
  have hadd := add_by hX.f
  have hsub := sub_by hX.f
  have hI : InYes X.f := by rcases hX.f with e | e <;> rw [e]; exact inYes1; exact inYes2
  have hz := hX.code
  have hav := fun (w : World) (a b : Nat) (us vs : List Int) (hu : us.length = N) (hv : vs.length = N) (iu : InF X.f us) (iv : InF X.f vs) (ha : Row w a us) (hb : Row w b vs) => (by
    have h9 := faddvec_any X.f (add X.f) us vs (some ⟨a, 0, none⟩) (some ⟨b, 0, none⟩) N N iu.ok iv.ok (by omega) (hu.trans hv.symm) hval hadd w ha.elems hb.elems
    rw [hu, hv] at h9
    exact h9 : Calls Try.prog 10 #[.int .u8 X.f, .slice (some ⟨a, 0, none⟩) N N, .slice (some ⟨b, 0, none⟩) N N] w fun e w' => ∃ g, e = .returned (.tuple #[.slice (some ⟨g, 0, none⟩) N N, .int .i64 0]) ∧ Below w.heap.size w w' ∧ w.heap.size ≤ g ∧ Row w' g (List.zipWith (add X.f) us vs))
  have hrt := fun (w : World) (a b c : Nat) (us vs ws : List Int) (hu : us.length = N) (hv : vs.length = N) (hw : ws.length = N) (iu : InF X.f us) (iv : InF X.f vs) (iw : InF X.f ws) (ha : Row w a us) (hb : Row w b vs) (hc : Row w c ws) =>
    retape_ok X.f us vs ws (some ⟨a, 0, none⟩) (some ⟨b, 0, none⟩) (some ⟨c, 0, none⟩) N N N N hu hw hv (by omega) iu iw iv hI (fun h => by cases h) hval hsub w ha.elems hb.elems hc.elems
  have hcc := fun w => ccheck_any X.k X.f X.b X.l X.w X.c w
  rw [show (Ci.mk X.k X.f X.b X.l X.w X.c) = X from rfl, hz] at hcc
  have a1 := Lib.hid (fun w ha hb => hav w g1 g2 xs ys l1 l2 i1 i2 ha hb)
  have a2 := Lib.hid (fun w ha hb => hav w g3 g4 os us l3 l4 i3 i4 ha hb)
  have t1 := Lib.hid (fun w ha hb hc => hrt w g1 g3 g5 xs os ps l1 l3 l5 i1 i3 i5 ha hb hc)
  have t2 := Lib.hid (fun w ha hb hc => hrt w g2 g4 g6 ys us qs l2 l4 l6 i2 i4 i6 ha hb hc)
  replace hcc := Lib.hid hcc
  unfold cvl
  unfold Drawn at t1 t2
  have hal := Lib.hid ((zip_length (op := add X.f) (l1.trans l2.symm)).trans l1)
  have hal2 := Lib.hid ((zip_length (op := add X.f) (l3.trans l4.symm)).trans l3)
  clear hav hrt hz hI hval hadd hsub hfe
  replace l1 := Lib.hid l1
  replace l2 := Lib.hid l2
  replace l3 := Lib.hid l3
  replace l4 := Lib.hid l4
  replace l5 := Lib.hid l5
  replace l6 := Lib.hid l6
  go_enter Try.func14, Try.ntmps14
  go_wp2_with fail
  refine name_calls (fun w1 => Below w.heap.size w w1 ∧ w1.heap[w.heap.size]? = some (.cells #[.int .u8 X.k, .int .u8 X.f, .int .i64 X.b, .int .i64 X.l, .int .i64 X.w, .int .i64 X.c] 29 (0, 0)) ∧ RowsAt w1 [(g1, xs), (g2, ys), (g3, os), (g4, us), (g5, ps), (g6, qs)]) ⟨(Below.refl _ _).alloc (Nat.le_refl _) _, alloc_at rfl, hR.up ((Below.refl _ _).alloc (Nat.le_refl _) _)⟩ ?_
  clear hR
  rintro w1 ⟨hb, k0, hR⟩
  refine call_then (hcc.out _) ?_
  intro w2 hw
  replace hb := below_next hb hb.size hw
  replace hR := hR.up hw
  replace k0 := keeps hw k0
  clear hw hcc
  obtain ⟨c0, c1, c2, c3, c4, c5⟩ := blk6 k0
  go_wp2_with fail
  refine (a1.out _ (hR (g1, xs) (by simp)) (hR (g2, ys) (by simp))).mono ?_
  rintro e w3 ⟨g7, rfl, hw, -, hr⟩
  replace hb := below_next hb hb.size hw
  replace hR := (hR.up hw).cons hr
  clear hw hr a1 c0 c1 c2 c3 c4 c5 k0
  go_wp2_with fail
  refine (a2.out _ (hR (g3, os) (by simp)) (hR (g4, us) (by simp))).mono ?_
  rintro e w4 ⟨g8, rfl, hw, -, hr⟩
  replace hb := below_next hb hb.size hw
  replace hR := (hR.up hw).cons hr
  clear hw hr a2
  have hr7 := hR (g7, List.zipWith (add X.f) xs ys) (by simp)
  have hr8 := hR (g8, List.zipWith (add X.f) os us) (by simp)
  rw [← hs] at hr8
  have he := Lib.hid (equal_yes (List.zipWith (add X.f) xs ys) (some ⟨g7, 0, none⟩) (some ⟨g8, 0, none⟩) N N N hal.out hm _ hr7.elems hr8.elems)
  clear hr7 hr8 hs hal hal2
  generalize List.zipWith (add X.f) xs ys = sa at *
  generalize List.zipWith (add X.f) os us = sb at *
  go_wp2_with fail
  refine call_then he.out ?_
  intro w5 hw
  replace hb := below_next hb hb.size hw
  replace hR := hR.up hw
  clear hw he
  go_wp2_with fail
  refine (t1.out _ (hR (g1, xs) (by simp)) (hR (g3, os) (by simp)) (hR (g5, ps) (by simp))).mono ?_
  rintro e w6 ⟨g9, rfl, hw, hr⟩
  replace hb := below_next hb hb.size hw
  replace hR := (hR.up hw).cons hr
  clear hw hr t1
  go_wp2_with fail
  refine (t2.out _ (hR (g2, ys) (by simp)) (hR (g4, us) (by simp)) (hR (g6, qs) (by simp))).mono ?_
  rintro e w7 ⟨g10, rfl, hw, hr⟩
  replace hb := below_next hb hb.size hw
  replace hR := (hR.up hw).cons hr
  clear hw hr t2
  replace hR := Lib.hid hR
  go_wp2
  exact bodyPost_ret (v := .tuple #[.slice (some ⟨g9, 0, none⟩) N N, .slice (some ⟨g10, 0, none⟩) N N, .int .i64 0]) (by simp [results, Try.results14, go_sem]) rfl ⟨g9, g10, rfl, hb, hR.out (g9, _) (by simp), hR.out (g10, _) (by simp)⟩
set_option maxRecDepth 20000 in
set_option maxHeartbeats 4000000 in
theorem swap_no (X : Ci) (hX : X.Good) (xs ys os us ps qs : List Int) (g1 g2 g3 g4 g5 g6 N : Nat) (hm : N ≤ 4096) (hN0 : 0 < N) (l1 : xs.length = N) (l2 : ys.length = N) (l3 : os.length = N) (l4 : us.length = N) (l5 : ps.length = N) (l6 : qs.length = N)
    (i1 : InF X.f xs) (i2 : InF X.f ys) (i3 : InF X.f os) (i4 : InF X.f us) (i5 : InF X.f ps) (i6 : InF X.f qs) (hs : (List.zipWith (add X.f) xs ys).getD 0 0 ≠ (List.zipWith (add X.f) os us).getD 0 0) (w : World) (hR : RowsAt w [(g1, xs), (g2, ys), (g3, os), (g4, us), (g5, ps), (g6, qs)]) :
    Calls Try.prog 14 #[cvl X, .slice (some ⟨g1, 0, none⟩) N N, .slice (some ⟨g2, 0, none⟩) N N, .slice (some ⟨g3, 0, none⟩) N N, .slice (some ⟨g4, 0, none⟩) N N, .slice (some ⟨g5, 0, none⟩) N N, .slice (some ⟨g6, 0, none⟩) N N] w fun e w' =>
      e = .returned (.tuple #[.slice none 0 0, .slice none 0 0, .int .i64 31]) ∧ Below w.heap.size w w' := by
  obtain ⟨f, hfe⟩ : ∃ f, X.f = f := ⟨_, rfl⟩
  have hval := fun w => fval_yes X.f hX.f w
  have hadd := add_by hX.f
  have hsub := sub_by hX.f
  have hI : InYes X.f := by rcases hX.f with e | e <;> rw [e]; exact inYes1; exact inYes2
  have hz := hX.code
  have hav := fun (w : World) (a b : Nat) (us vs : List Int) (hu : us.length = N) (hv : vs.length = N) (iu : InF X.f us) (iv : InF X.f vs) (ha : Row w a us) (hb : Row w b vs) => (by
    have h9 := faddvec_any X.f (add X.f) us vs (some ⟨a, 0, none⟩) (some ⟨b, 0, none⟩) N N iu.ok iv.ok (by omega) (hu.trans hv.symm) hval hadd w ha.elems hb.elems
    rw [hu, hv] at h9
    exact h9 : Calls Try.prog 10 #[.int .u8 X.f, .slice (some ⟨a, 0, none⟩) N N, .slice (some ⟨b, 0, none⟩) N N] w fun e w' => ∃ g, e = .returned (.tuple #[.slice (some ⟨g, 0, none⟩) N N, .int .i64 0]) ∧ Below w.heap.size w w' ∧ w.heap.size ≤ g ∧ Row w' g (List.zipWith (add X.f) us vs))
  have hrt := fun (w : World) (a b c : Nat) (us vs ws : List Int) (hu : us.length = N) (hv : vs.length = N) (hw : ws.length = N) (iu : InF X.f us) (iv : InF X.f vs) (iw : InF X.f ws) (ha : Row w a us) (hb : Row w b vs) (hc : Row w c ws) =>
    retape_ok X.f us vs ws (some ⟨a, 0, none⟩) (some ⟨b, 0, none⟩) (some ⟨c, 0, none⟩) N N N N hu hw hv (by omega) iu iw iv hI (fun h => by cases h) hval hsub w ha.elems hb.elems hc.elems
  have hcc := fun w => ccheck_any X.k X.f X.b X.l X.w X.c w
  rw [show (Ci.mk X.k X.f X.b X.l X.w X.c) = X from rfl, hz] at hcc
  have a1 := Lib.hid (fun w ha hb => hav w g1 g2 xs ys l1 l2 i1 i2 ha hb)
  have a2 := Lib.hid (fun w ha hb => hav w g3 g4 os us l3 l4 i3 i4 ha hb)
  have t1 := Lib.hid (fun w ha hb hc => hrt w g1 g3 g5 xs os ps l1 l3 l5 i1 i3 i5 ha hb hc)
  have t2 := Lib.hid (fun w ha hb hc => hrt w g2 g4 g6 ys us qs l2 l4 l6 i2 i4 i6 ha hb hc)
  replace hcc := Lib.hid hcc
  unfold cvl
  unfold Drawn at t1 t2
  have hal := Lib.hid ((zip_length (op := add X.f) (l1.trans l2.symm)).trans l1)
  have hal2 := Lib.hid ((zip_length (op := add X.f) (l3.trans l4.symm)).trans l3)
  clear hav hrt hz hI hval hadd hsub hfe
  replace l1 := Lib.hid l1
  replace l2 := Lib.hid l2
  replace l3 := Lib.hid l3
  replace l4 := Lib.hid l4
  replace l5 := Lib.hid l5
  replace l6 := Lib.hid l6
  go_enter Try.func14, Try.ntmps14
  go_wp2_with fail
  refine name_calls (fun w1 => Below w.heap.size w w1 ∧ w1.heap[w.heap.size]? = some (.cells #[.int .u8 X.k, .int .u8 X.f, .int .i64 X.b, .int .i64 X.l, .int .i64 X.w, .int .i64 X.c] 29 (0, 0)) ∧ RowsAt w1 [(g1, xs), (g2, ys), (g3, os), (g4, us), (g5, ps), (g6, qs)]) ⟨(Below.refl _ _).alloc (Nat.le_refl _) _, alloc_at rfl, hR.up ((Below.refl _ _).alloc (Nat.le_refl _) _)⟩ ?_
  clear hR
  rintro w1 ⟨hb, k0, hR⟩
  refine call_then (hcc.out _) ?_
  intro w2 hw
  replace hb := below_next hb hb.size hw
  replace hR := hR.up hw
  replace k0 := keeps hw k0
  clear hw hcc
  obtain ⟨c0, c1, c2, c3, c4, c5⟩ := blk6 k0
  go_wp2_with fail
  refine (a1.out _ (hR (g1, xs) (by simp)) (hR (g2, ys) (by simp))).mono ?_
  rintro e w3 ⟨g7, rfl, hw, -, hr⟩
  replace hb := below_next hb hb.size hw
  replace hR := (hR.up hw).cons hr
  clear hw hr a1 c0 c1 c2 c3 c4 c5 k0
  go_wp2_with fail
  refine (a2.out _ (hR (g3, os) (by simp)) (hR (g4, us) (by simp))).mono ?_
  rintro e w4 ⟨g8, rfl, hw, -, hr⟩
  replace hb := below_next hb hb.size hw
  replace hR := (hR.up hw).cons hr
  clear hw hr a2
  have hr7 := hR (g7, List.zipWith (add X.f) xs ys) (by simp)
  have hr8 := hR (g8, List.zipWith (add X.f) os us) (by simp)
  have he := Lib.hid (equal_no (List.zipWith (add X.f) xs ys) (List.zipWith (add X.f) os us) (some ⟨g7, 0, none⟩) (some ⟨g8, 0, none⟩) N N N hal.out hal2.out hm hN0 hs _ hr7.elems hr8.elems)
  clear hr7 hr8 hs hal hal2 t1 t2
  generalize List.zipWith (add X.f) xs ys = sa at *
  generalize List.zipWith (add X.f) os us = sb at *
  go_wp2_with fail
  refine call_then he.out ?_
  intro w5 hw
  replace hb := below_next hb hb.size hw
  clear hw he
  go_wp2
  exact bodyPost_ret (v := .tuple #[.slice none 0 0, .slice none 0 0, .int .i64 31]) (by simp [results, Try.results14, go_sem]) rfl ⟨rfl, hb⟩
end Go.Proofs.Ytaiffgkiliokfaa
