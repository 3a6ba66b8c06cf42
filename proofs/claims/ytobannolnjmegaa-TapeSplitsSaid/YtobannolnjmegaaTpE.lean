/-
  TapeBack: to each draw by which one vector has a first share belongs just one by which another vector has it.
-/
import Derived.Test.YtobannolnjmegaaTpD
import Derived.Test.YtobannolnjmegaaFrame
import Derived.Test.YtobannolnjmegaaElems
import Derived.IntWalk
namespace Go.Proofs.Ytobannolnjmegaa
open Go.RowKit F Flow Go.WideShapes Go.ChangeShapes
set_option linter.unusedVariables false
set_option linter.unusedSimpArgs false
attribute [local go_sem] eql_elem

theorem sub_sub (f a b : Int) (hb : 0 ≤ b ∧ b < M f) : sub f a (sub f a b) = b := by
  have hr : redu f b = b := redu_of_lt hb.1 hb.2
  have h1 : redu f (sub f a b) = sub f a b := redu_of_lt (sub_bound f a b).1 (sub_bound f a b).2
  have hM := M_pos f
  have ha := redu_lt f a
  have ha0 := redu_nonneg f a
  conv => lhs; unfold sub
  rw [show ((redu f a - redu f b) % M f) = sub f a b from rfl, h1]
  by_cases h : redu f b ≤ redu f a
  · rw [sub_more h, hr]
    rw [show redu f a - (redu f a - b) = b by omega]
    exact Int.emod_eq_of_lt hb.1 hb.2
  · rw [sub_less (by omega), hr]
    rw [show redu f a - (M f - (b - redu f a)) = b - M f by omega, Int.sub_emod_right]
    exact Int.emod_eq_of_lt hb.1 hb.2
theorem zip_back (f : Int) : ∀ (xs ys : List Int), xs.length = ys.length → InF f ys → List.zipWith (sub f) xs (List.zipWith (sub f) xs ys) = ys
  | [], [], _, _ => rfl
  | x :: xs, y :: ys, h, hi => by
    rw [List.zipWith_cons_cons, List.zipWith_cons_cons, sub_sub f x y (hi y (by simp)), zip_back f xs ys (by simpa using h) (fun z hz => hi z (by simp [hz]))]
/-- Blocks that hold elements. -/
def RowsAt (w : World) (l : List (Nat × List Int)) : Prop := ∀ p, p ∈ l → Row w p.1 p.2
theorem RowsAt.up {w w' : World} {l : List (Nat × List Int)} (h : RowsAt w l) (hb : Below w.heap.size w w') : RowsAt w' l := fun p hp => (h p hp).up hb
theorem RowsAt.cons {w : World} {l : List (Nat × List Int)} {g : Nat} {xs : List Int} (h : RowsAt w l) (hr : Row w g xs) : RowsAt w ((g, xs) :: l) := fun p hp => by
  rcases List.mem_cons.1 hp with rfl | hp
  · exact hr
  · exact h p hp
theorem RowsAt.nil (w : World) : RowsAt w [] := fun p hp => by cases hp
theorem RowsAt.at_ {w : World} {l : List (Nat × List Int)} (h : RowsAt w l) {g : Nat} {xs : List Int} (hm : (g, xs) ∈ l) : ElemsAt w (some ⟨g, 0, none⟩) xs := Row.elems (h (g, xs) hm)
set_option maxRecDepth 100000 in
set_option maxHeartbeats 8000000 in
theorem tapeBack_small (n f : Int) (f0 : 0 ≤ f) (f2 : f ≤ 2) (ls ms ks : List Int) (A B C : Option Addr) (L Lm Lk c d e : Nat) (hL : ls.length = L) (hLm : ms.length = Lm) (hLk : ks.length = Lk)
    (h1 : L ≤ 20) (h2 : Lm ≤ 20) (h3 : Lk ≤ 20) (hl : ElemsOK ls) (hm : ElemsOK ms) (hk : ElemsOK ks)
    (hf : ∀ w, Calls Try.prog 7 #[.int .u8 n] w fun e w' => e = .returned (.int .u8 f) ∧ Below w.heap.size w w') (hI : InYes f)
    (hval : ∀ w, Calls Try.prog 15 #[.int .u8 f] w fun e w' => e = .returned (.bool true) ∧ Below w.heap.size w w') (hop : OpBy 25 f (sub f)) (w : World) (hA : ElemsAt w A ls) (hB : ElemsAt w B ms) (hC : ElemsAt w C ks) :
    Calls Try.prog 4 #[.int .u8 n, .slice A L c, .slice B Lm d, .slice C Lk e] w fun e w' => e = .returned (.bool true) ∧ Below w.heap.size w w' := by
  have L0 : (L : Int) ≤ 20 := by omega
  have L1 : (Lm : Int) ≤ 20 := by omega
  have L2 : (Lk : Int) ≤ 20 := by omega
  have hw8 : IntKind.i64.wrap f = f := IntWalk.i64_in _ (by omega)
  have hs1 := Lib.hid (fun w hA => some_1 f ls A L c L hL h1 h1 hl w hA)
  have hs2 := Lib.hid (fun w hB => some_1 f ms B Lm d L hLm h2 h1 hm w hB)
  have hs3 := Lib.hid (fun w hC => some_3 f ks C Lk e L hLk h3 h1 hk w hC)
  replace hf := Lib.hid hf
  replace hA := Lib.hid hA
  replace hB := Lib.hid hB
  replace hC := Lib.hid hC
  replace hI := Lib.hid hI
  replace hval := Lib.hid hval
  replace hop := Lib.hid hop
  clear hL hLm hLk hl hm hk
  go_enter Try.func4, Try.ntmps4
  go_wp2_with fail
  refine call_then (tawake _) ?_
  intro w1 hb
  have hR := RowsAt.nil w1
  go_wp2_with fail
  refine call_then (hf.out _) ?_
  intro w2 hw
  replace hb := below_next hb hb.size hw
  replace hR := hR.up hw
  clear hw
  go_wp2_with fail
  refine call_then (hf.out _) ?_
  intro w3 hw
  replace hb := below_next hb hb.size hw
  replace hR := hR.up hw
  clear hw
  go_wp2_with fail
  refine (hs1.out _ (hA.out.up hb)).mono ?_
  rintro e w2 ⟨g1, X, rfl, hw, hr, lX, iX⟩
  replace hb := below_next hb hb.size hw
  replace hR := (hR.up hw).cons hr
  replace lX := Lib.hid lX
  clear hw hr
  go_wp2_with fail
  refine (hs2.out _ (hB.out.up hb)).mono ?_
  rintro e w2 ⟨g2, O, rfl, hw, hr, lO, iO⟩
  replace hb := below_next hb hb.size hw
  replace hR := (hR.up hw).cons hr
  replace lO := Lib.hid lO
  clear hw hr
  go_wp2_with fail
  refine (hs3.out _ (hC.out.up hb)).mono ?_
  rintro e w2 ⟨g3, D, rfl, hw, hr, lD, iD⟩
  replace hb := below_next hb hb.size hw
  replace hR := (hR.up hw).cons hr
  replace lD := Lib.hid lD
  clear hw hr
  clear hs1 hs2 hs3 hA hB hC
  have lXD := lX.out.trans lD.out.symm
  have lF1 : (List.zipWith (sub f) X D).length = L := (zip_length lXD).trans lX.out
  have iF1 := InF.zip (f := f) X D
  have bD := zip_back f X D lXD iD
  have lOF := lO.out.trans lF1.symm
  have lR1 : (List.zipWith (sub f) O (List.zipWith (sub f) X D)).length = L := (zip_length lOF).trans lO.out
  have iR1 := InF.zip (f := f) O (List.zipWith (sub f) X D)
  have bF := zip_back f O (List.zipWith (sub f) X D) lOF iF1
  generalize hP : List.zipWith (sub f) X D = P at *
  generalize hQ : List.zipWith (sub f) O P = Q at *
  replace hP := Lib.hid hP
  replace hQ := Lib.hid hQ
  replace bD := Lib.hid bD
  replace bF := Lib.hid bF
  replace lF1 := Lib.hid lF1
  replace lR1 := Lib.hid lR1
  clear lXD lOF
  -- the first vector is cut
  have q1 := split_ok f X D (some ⟨g1, 0, none⟩) (some ⟨g3, 0, none⟩) L L L lX.out lD.out (by omega) iX iD hI.out (fun h => by cases h) hval.out hop.out w2 (hR.at_ (by simp)) (hR.at_ (by simp))
  unfold Cut at q1
  rw [hP.out] at q1
  replace q1 := Lib.hid q1
  go_wp2_with fail
  refine q1.out.mono ?_
  rintro e w3 ⟨g4, B4, c4, rfl, hw, hr, -, -⟩
  replace hb := below_next hb hb.size hw
  replace hR := (hR.up hw).cons hr
  clear hw hr q1
  go_wp2_with fail
  -- the struct's block
  have k4 : (w3.alloc (.cells #[.slice (some ⟨g4, 0, none⟩) L L, .slice B4 L c4] 28 (0, 0))).heap[w3.heap.size]? = some (.cells #[.slice (some ⟨g4, 0, none⟩) L L, .slice B4 L c4] 28 (0, 0)) := alloc_at rfl
  replace hR := hR.up ((Below.refl w3.heap.size w3).alloc (Nat.le_refl _) (.cells #[.slice (some ⟨g4, 0, none⟩) L L, .slice B4 L c4] 28 (0, 0)))
  replace hb := hb.alloc hb.size (.cells #[.slice (some ⟨g4, 0, none⟩) L L, .slice B4 L c4] 28 (0, 0))
  generalize (w3.alloc (.cells #[.slice (some ⟨g4, 0, none⟩) L L, .slice B4 L c4] 28 (0, 0))) = w4 at *
  generalize w3.heap.size = p4 at *
  have q2 := retape_ok f X O D (some ⟨g1, 0, none⟩) (some ⟨g2, 0, none⟩) (some ⟨g3, 0, none⟩) L L L L lX.out lD.out lO.out (by omega) iX iD iO hI.out (fun h => by cases h) hval.out hop.out w4 (hR.at_ (by simp)) (hR.at_ (by simp)) (hR.at_ (by simp))
  unfold Drawn at q2
  rw [hP.out, hQ.out] at q2
  replace q2 := Lib.hid q2
  refine q2.out.mono ?_
  rintro e w5 ⟨g5, rfl, hw, hr⟩
  replace hb := below_next hb hb.size hw
  replace hR := (hR.up hw).cons hr
  replace k4 := keeps hw k4
  clear hw hr q2
  have q3 := split_ok f O Q (some ⟨g2, 0, none⟩) (some ⟨g5, 0, none⟩) L L L lO.out lR1.out (by omega) iO iR1 hI.out (fun h => by cases h) hval.out hop.out w5 (hR.at_ (by simp)) (hR.at_ (by simp))
  unfold Cut at q3
  rw [bF.out] at q3
  replace q3 := Lib.hid q3
  go_wp2_with fail
  refine q3.out.mono ?_
  rintro e w6 ⟨g6, B6, c6, rfl, hw, hr, -, -⟩
  replace hb := below_next hb hb.size hw
  replace hR := (hR.up hw).cons hr
  replace k4 := keeps hw k4
  clear hw hr q3
  go_wp2_with fail
  have k6 : (w6.alloc (.cells #[.slice (some ⟨g6, 0, none⟩) L L, .slice B6 L c6] 28 (0, 0))).heap[w6.heap.size]? = some (.cells #[.slice (some ⟨g6, 0, none⟩) L L, .slice B6 L c6] 28 (0, 0)) := alloc_at rfl
  replace hR := hR.up ((Below.refl w6.heap.size w6).alloc (Nat.le_refl _) (.cells #[.slice (some ⟨g6, 0, none⟩) L L, .slice B6 L c6] 28 (0, 0)))
  replace hb := hb.alloc hb.size (.cells #[.slice (some ⟨g6, 0, none⟩) L L, .slice B6 L c6] 28 (0, 0))
  replace k4 : (w6.alloc (.cells #[.slice (some ⟨g6, 0, none⟩) L L, .slice B6 L c6] 28 (0, 0))).heap[p4]? = _ := alloc_keeps k4
  generalize (w6.alloc (.cells #[.slice (some ⟨g6, 0, none⟩) L L, .slice B6 L c6] 28 (0, 0))) = w7 at *
  generalize w6.heap.size = p6 at *
  have q4 := retape_ok f O X Q (some ⟨g2, 0, none⟩) (some ⟨g1, 0, none⟩) (some ⟨g5, 0, none⟩) L L L L lO.out lR1.out lX.out (by omega) iO iR1 iX hI.out (fun h => by cases h) hval.out hop.out w7 (hR.at_ (by simp)) (hR.at_ (by simp)) (hR.at_ (by simp))
  unfold Drawn at q4
  rw [bF.out, bD.out] at q4
  replace q4 := Lib.hid q4
  refine q4.out.mono ?_
  rintro e w8 ⟨g8, rfl, hw, hr⟩
  replace hb := below_next hb hb.size hw
  replace hR := (hR.up hw).cons hr
  replace k4 := keeps hw k4
  replace k6 := keeps hw k6
  clear hw hr q4
  obtain ⟨c0, c1, u0, u1⟩ := blk2 k4
  obtain ⟨d0, d1, v0, v1⟩ := blk2 k6
  have s1 := Lib.hid (same_yes P (some ⟨g4, 0, none⟩) (some ⟨g6, 0, none⟩) L L L lF1.out (by omega) w8 (hR.at_ (by simp)) (hR.at_ (by simp)))
  go_wp2_with fail
  refine call_then s1.out ?_
  intro w9 hw
  replace hb := below_next hb hb.size hw
  replace hR := hR.up hw
  clear hw s1 c0 c1 d0 d1 u0 u1 v0 v1 k4 k6
  have s2 := Lib.hid (same_yes D (some ⟨g8, 0, none⟩) (some ⟨g3, 0, none⟩) L L L lD.out (by omega) w9 (hR.at_ (by simp)) (hR.at_ (by simp)))
  go_wp2_with fail
  refine call_then s2.out ?_
  intro w10 hw
  replace hb := below_next hb hb.size hw
  clear hw s2 hR
  go_wp2
  go_ret
  exact ⟨rfl, hb⟩
end Go.Proofs.Ytobannolnjmegaa
