/-
  TapeSplits: any vector, any draws: two shares that add up to it.
-/
import Derived.Test.YtobannolnjmegaaTpH
namespace Go.Proofs.Ytobannolnjmegaa
open Go.RowKit F Flow Go.WideShapes Go.ChangeShapes
set_option linter.unusedVariables false
set_option linter.unusedSimpArgs false
attribute [local go_sem] eql_elem

theorem add_sub' (f x d : Int) (hx : 0 ≤ x ∧ x < M f) (hd : 0 ≤ d ∧ d < M f) : add f (sub f x d) d = x := by
  unfold add
  rw [redu_of_lt (sub_bound f x d).1 (sub_bound f x d).2, redu_of_lt hd.1 hd.2]
  unfold sub
  rw [redu_of_lt hx.1 hx.2, redu_of_lt hd.1 hd.2, Int.emod_add_emod, Int.sub_add_cancel]
  exact Int.emod_eq_of_lt hx.1 hx.2
theorem zip_sum (f : Int) : ∀ (xs ys : List Int), xs.length = ys.length → InF f xs → InF f ys → List.zipWith (add f) (List.zipWith (sub f) xs ys) ys = xs
  | [], [], _, _, _ => rfl
  | x :: xs, y :: ys, h, hx, hy => by
    rw [List.zipWith_cons_cons, List.zipWith_cons_cons, add_sub' f x y (hx x (by simp)) (hy y (by simp)), zip_sum f xs ys (by simpa using h) (fun z hz => hx z (by simp [hz])) (fun z hz => hy z (by simp [hz]))]
def cdB (b : Bool) : Int := if b then 0 else 7
theorem elems_room {H : Type} {enc : TypeId × Value → H} {w : World} {base : Nat} {spare : Nat → Bool} {held : Bool} {v : Value} {d : DataW H} {p : List MemPlace} {r : Reach} {b0 : Nat}
    (hv : Value.okWide Try.prog w r b0 22 v) (h : DataW.Trod enc Try.prog w base spare held 22 v d p) {A : Option Addr} {n c : Nat} (e : v = .slice A n c) : A = none → c = 0 := by
  obtain ⟨a0, len0, cap0, rfl⟩ := okWide_slice Try.underlying22 hv
  cases e
  obtain ⟨fuel, h⟩ := h
  rcases Go.Deep.open_slice Try.underlying22 h with ⟨hc, _⟩ | ⟨a, len, cap, m, n', D, Pl, hcs, _⟩
  · have hv : Value.slice A n c = .slice none 0 0 := by simpa [Value.cells] using hc
    cases hv
    exact fun _ => rfl
  · have hv : Value.slice A n c = .slice (some a) len cap := by simpa [Value.cells] using hcs
    cases hv
    exact fun h => by cases h
set_option maxRecDepth 100000 in
set_option maxHeartbeats 8000000 in
theorem tapeSplits_small (n f : Int) (n0 : 0 ≤ n) (n1 : n ≤ 255) (f0 : 0 ≤ f) (f2 : f ≤ 2) (ls ms rs : List Int) (A B C : Option Addr) (L Lm Lr c d e : Nat) (hL : ls.length = L) (hLm : ms.length = Lm) (hLr : rs.length = Lr)
    (h1 : L ≤ 20) (h2 : Lm ≤ 20) (h3 : Lr ≤ 20) (hl : ElemsOK ls) (hm : ElemsOK ms) (hr : ElemsOK rs) (hc0 : C = none → e = 0)
    (hf : ∀ w, Calls Try.prog 7 #[.int .u8 n] w fun e w' => e = .returned (.int .u8 f) ∧ Below w.heap.size w w') (hI : InYes f) (hI2 : InNo f)
    (hRin : ∀ a w, Calls Try.prog 12 #[.int .i64 f, .agg #[.int .u64 (lo a), .int .u64 (hi a)]] w fun e w' => e = .returned (.bool (decide (a < M f))) ∧ Below w.heap.size w w')
    (hval : ∀ w, Calls Try.prog 15 #[.int .u8 f] w fun e w' => e = .returned (.bool true) ∧ Below w.heap.size w w') (hop : OpBy 25 f (sub f)) (hopa : OpBy 20 f (add f)) (w : World) (hA : ElemsAt w A ls) (hB : ElemsAt w B ms) (hC : ElemsAt w C rs) :
    Calls Try.prog 3 #[.int .u8 n, .slice A L c, .slice B Lm d, .slice C Lr e] w fun e w' => e = .returned (.bool true) ∧ Below w.heap.size w w' := by
  have L0 : (L : Int) ≤ 20 := by omega
  have L1 : (Lm : Int) ≤ 20 := by omega
  have L2 : (Lr : Int) ≤ 20 := by omega
  have hw8 : IntKind.i64.wrap f = f := IntWalk.i64_in _ (by omega)
  have hs1 := Lib.hid (fun w hA => some_1 f ls A L c L hL h1 h1 hl w hA)
  have hs2 := Lib.hid (fun w hB => some_2 f ms B Lm d L hLm h2 h1 hm w hB)
  have hs3 := Lib.hid (fun w hA hC => split_any f ls rs A C L Lr c e hL (by omega) hLr (by omega) hl hr hI hI2 hc0 hval hop w hA hC)
  replace hf := Lib.hid hf
  replace hA := Lib.hid hA
  replace hB := Lib.hid hB
  replace hC := Lib.hid hC
  replace hI := Lib.hid hI
  replace hval := Lib.hid hval
  replace hop := Lib.hid hop
  replace hopa := Lib.hid hopa
  replace hRin := Lib.hid hRin
  have hwant : Hid ((wantC f ls rs = 7 ∧ (allB f ls && allB f rs) = false) ∨ (wantC f ls rs = 9 ∧ (allB f ls && allB f rs) = true ∧ L ≠ Lr) ∨ (wantC f ls rs = 0 ∧ (allB f ls && allB f rs) = true ∧ L = Lr)) := by
    unfold wantC
    rw [hL, hLr]
    cases hq : (allB f ls && allB f rs) with
    | false => exact .inl ⟨rfl, rfl⟩
    | true =>
      by_cases he : L = Lr
      · exact .inr (.inr ⟨by simp [he], rfl, he⟩)
      · exact .inr (.inl ⟨by simp [he], rfl, he⟩)
  replace hL := Lib.hid hL
  replace hLr := Lib.hid hLr
  have t0 : 0 ≤ n % 250 := by omega
  have t1 : n % 250 < 250 := by omega
  have t2 : n.tmod 250 = n % 250 := Int.tmod_eq_emod_of_nonneg n0
  have hnf : NoField (3 + n % 250) := ⟨by rw [beq_eq_false_iff_ne]; omega, by rw [beq_eq_false_iff_ne]; omega⟩
  have hs4 := Lib.hid (fun a b w => split_none (3 + n % 250) hnf a b w)
  clear hLm hm hnf hI2 hc0
  go_enter Try.func3, Try.ntmps3
  go_wp2_with fail
  refine call_then (tawake _) ?_
  intro w1 hb
  have hR := RowsAt.nil w1
  go_wp2_with fail
  refine call_then (hf.out _) ?_
  intro w2 hw
  replace hb := below_next hb hb.size hw
  replace hR := hR.up hw
  clear hw
  go_wp2_with fail
  refine call_then (hf.out _) ?_
  intro w3 hw
  replace hb := below_next hb hb.size hw
  replace hR := hR.up hw
  clear hw
  go_wp2_with fail
  refine (hs1.out _ (hA.out.up hb)).mono ?_
  rintro e w2 ⟨g1, X, rfl, hw, hr, lX, iX⟩
  replace hb := below_next hb hb.size hw
  replace hR := (hR.up hw).cons hr
  replace lX := Lib.hid lX
  clear hw hr
  go_wp2_with fail
  refine (hs2.out _ (hB.out.up hb)).mono ?_
  rintro e w2 ⟨g3, D, rfl, hw, hr, lD, iD⟩
  replace hb := below_next hb hb.size hw
  replace hR := (hR.up hw).cons hr
  replace lD := Lib.hid lD
  clear hw hr
  clear hs1 hs2 hB
  have lXD := lX.out.trans lD.out.symm
  have lF1 : (List.zipWith (sub f) X D).length = L := (zip_length lXD).trans lX.out
  have iF1 := InF.zip (f := f) X D
  have bS := zip_sum f X D lXD iX iD
  have q1 := split_ok f X D (some ⟨g1, 0, none⟩) (some ⟨g3, 0, none⟩) L L L lX.out lD.out (by omega) iX iD hI.out (fun h => by cases h) hval.out hop.out w2 (hR.at_ (by simp)) (hR.at_ (by simp))
  unfold Cut at q1
  generalize List.zipWith (sub f) X D = P at *
  have q2 := fun w g B4 c4 (hP : Row w g P) (hD : ElemsAt w B4 D) => faddvec_any f (add f) P D (some ⟨g, 0, none⟩) B4 L c4 iF1.ok iD.ok (by omega) (lF1.trans lD.out.symm) hval.out hopa.out w hP.elems hD
  rw [lF1, lD.out, bS] at q2
  replace q1 := Lib.hid q1
  replace q2 := Lib.hid q2
  replace bS := Lib.hid bS
  replace lF1 := Lib.hid lF1
  clear lXD
  go_wp2_with fail
  refine q1.out.mono ?_
  rintro e1 w3 ⟨g4, B4, c4, rfl, hw, hr4, hE, -⟩
  replace hb := below_next hb hb.size hw
  replace hR := (hR.up hw).cons hr4
  clear hw hr4 q1
  go_wp2_with fail
  have k4 : (w3.alloc (.cells #[.slice (some ⟨g4, 0, none⟩) L L, .slice B4 L c4] 28 (0, 0))).heap[w3.heap.size]? = some (.cells #[.slice (some ⟨g4, 0, none⟩) L L, .slice B4 L c4] 28 (0, 0)) := alloc_at rfl
  replace hE := hE.up ((Below.refl w3.heap.size w3).alloc (Nat.le_refl _) (.cells #[.slice (some ⟨g4, 0, none⟩) L L, .slice B4 L c4] 28 (0, 0)))
  replace hR := hR.up ((Below.refl w3.heap.size w3).alloc (Nat.le_refl _) (.cells #[.slice (some ⟨g4, 0, none⟩) L L, .slice B4 L c4] 28 (0, 0)))
  replace hb := hb.alloc hb.size (.cells #[.slice (some ⟨g4, 0, none⟩) L L, .slice B4 L c4] 28 (0, 0))
  generalize (w3.alloc (.cells #[.slice (some ⟨g4, 0, none⟩) L L, .slice B4 L c4] 28 (0, 0))) = w4 at *
  generalize w3.heap.size = p4 at *
  refine (q2.out _ g4 B4 c4 (hR (g4, P) (by simp)) hE).mono ?_
  rintro e2 w5 ⟨g5, rfl, hw, -, hr5⟩
  replace hb := below_next hb hb.size hw
  replace hR := (hR.up hw).cons hr5
  replace k4 := keeps hw k4
  replace hE := hE.up hw
  clear hw hr5 q2
  have s1 := Lib.hid (same_yes X (some ⟨g5, 0, none⟩) (some ⟨g1, 0, none⟩) L L L lX.out (by omega) w5 (hR.at_ (by simp)) (hR.at_ (by simp)))
  go_wp2_with fail
  refine call_then s1.out ?_
  intro w6 hw
  replace hb := below_next hb hb.size hw
  replace hR := hR.up hw
  replace k4 := keeps hw k4
  replace hE := hE.up hw
  clear hw s1
  obtain ⟨a0, a1, u0, u1⟩ := blk2 k4
  have s2 := Lib.hid (same_yes D B4 (some ⟨g3, 0, none⟩) L c4 L lD.out (by omega) w6 hE (hR.at_ (by simp)))
  go_wp2_with fail
  refine call_then s2.out ?_
  intro w7 hw
  replace hb := below_next hb hb.size hw
  clear hw s2 hE hR k4 a0 a1 u0 u1 iX iD iF1 lX lD lF1 bS
  go_wp2_with fail
  refine (hs3.out _ (hA.out.up hb) (hC.out.up hb)).mono ?_
  rintro e3 w8 ⟨A7, n7, c7, B7, m7, d7, rfl, hw, hnil⟩
  replace hb := below_next hb hb.size hw
  clear hw hs3
  replace hnil := Lib.hid hnil
  generalize hwc : wantC f ls rs = want at *
  replace hwc := Lib.hid hwc
  go_upto_region 13 with (fail)
  have k7 : (w8.alloc (.cells #[.slice A7 n7 c7, .slice B7 m7 d7] 28 (0, 0))).heap[w8.heap.size]? = some (.cells #[.slice A7 n7 c7, .slice B7 m7 d7] 28 (0, 0)) := alloc_at rfl
  replace hb := hb.alloc hb.size (.cells #[.slice A7 n7 c7, .slice B7 m7 d7] 28 (0, 0))
  generalize (w8.alloc (.cells #[.slice A7 n7 c7, .slice B7 m7 d7] 28 (0, 0))) = w9 at *
  generalize w8.heap.size = p17 at *
  go_wp2_with fail
  have kl : (w9.alloc (.cells #[.slice A L c, .slice C Lr e] 22 (0, 0))).heap[w9.heap.size]? = some (.cells #[.slice A L c, .slice C Lr e] 22 (0, 0)) := alloc_at rfl
  replace k7 : (w9.alloc (.cells #[.slice A L c, .slice C Lr e] 22 (0, 0))).heap[p17]? = some (.cells #[.slice A7 n7 c7, .slice B7 m7 d7] 28 (0, 0)) := alloc_keeps k7
  replace hb := hb.alloc hb.size (.cells #[.slice A L c, .slice C Lr e] 22 (0, 0))
  generalize (w9.alloc (.cells #[.slice A L c, .slice C Lr e] 22 (0, 0))) = w10 at *
  generalize w9.heap.size = lb at *
  go_loopw [102, 19] (fun i s wr => ∃ j : Nat, i = .int .i64 (j : Int) ∧ ((j = 0 ∧ s = .int .i64 0) ∨ (j = 1 ∧ s = .int .i64 (cdB (allB f ls))) ∨ (j = 2 ∧ s = .int .i64 (cdB (allB f ls && allB f rs)))) ∧ Below w.heap.size w wr ∧ wr.heap[p17]? = some (.cells #[.slice A7 n7 c7, .slice B7 m7 d7] 28 (0, 0)) ∧ wr.heap[lb]? = some (.cells #[.slice A L c, .slice C Lr e] 22 (0, 0))) (fun i _ _ => 2 - (intOf i).toNat)
  case atStart => exact ⟨0, rfl, .inl ⟨rfl, rfl⟩, hb, k7, kl⟩
  case round =>
    clear hb k7 kl
    obtain ⟨j, rfl, hj, hb, k7, kl⟩ := hrel
    rcases hj with ⟨rfl, rfl⟩ | ⟨rfl, rfl⟩ | ⟨rfl, rfl⟩
    · obtain ⟨a0, a1, u0, u1⟩ := blk2 kl
      rw [show ((0 : Nat) : Int) = 0 from rfl]
      go_wp2
      go_loopw [108, 19] (fun i s wr => ∃ k : Nat, k ≤ L ∧ i = .int .i64 (k : Int) ∧ s = .int .i64 (cdB (true && allB f (ls.take k))) ∧ Below w.heap.size w wr ∧ wr.heap[p17]? = some (.cells #[.slice A7 n7 c7, .slice B7 m7 d7] 28 (0, 0)) ∧ wr.heap[lb]? = some (.cells #[.slice A L c, .slice C Lr e] 22 (0, 0))) (fun i _ _ => L - (intOf i).toNat)
      case atStart => exact ⟨0, Nat.zero_le _, rfl, by simp [allB, cdB], hb, k7, kl⟩
      case round =>
        clear hb k7 kl
        obtain ⟨k, hk, rfl, rfl, hb, k7, kl⟩ := hrel
        by_cases hlt : k < L
        · obtain ⟨b, o, rfl, c0, c1⟩ := (hA.out.up hb) k (by rw [hL.out]; exact hlt)
          have hxk := hl.at_ (k := k) (by rw [hL.out]; exact hlt)
          have hts := Lib.hid (allB_take (f := f) (xs := ls) (k := k) (by rw [hL.out]; exact hlt))
          have hRi := hRin.out (ls.getD k 0)
          have q0 : (0 : Int) ≤ (k : Int) := by omega
          have q1 : (k : Int) < (L : Int) := by omega
          generalize ls.getD k 0 = x at *
          have hu : Hid (cdB (true && allB f (ls.take (k + 1))) = if x < M f then cdB (true && allB f (ls.take k)) else 7) := by
            show _ = _
            rw [hts.out]
            by_cases hin : x < M f
            · rw [if_pos hin]; simp [hin]
            · rw [if_neg hin]; simp [hin, cdB]
          generalize hcc : cdB (true && allB f (ls.take k)) = cc at *
          replace hcc := Lib.hid hcc
          by_cases hin : x < M f
          · rw [show decide (x < M f) = true by simpa using hin] at hRi
            have hu2 : Hid (cdB (true && allB f (ls.take (k + 1))) = cc) := by show _ = _; rw [hu.out, if_pos hin]
            replace hRi := Lib.hid hRi
            clear hin hu hts hxk
            go_wp2_with fail
            refine call_then (hRi.out _) ?_
            intro w2 hw2
            have hbA := (Below.refl wr.heap.size wr).alloc (Nat.le_refl _) (.cells #[.int .u64 (lo x), .int .u64 (hi x)] 38 (0, 0))
            have hb2 := below_next (below_next hb hb.size hbA) (hb.alloc hb.size _).size hw2
            have k72 := keeps hw2 (keeps hbA k7)
            have kl2 := keeps hw2 (keeps hbA kl)
            clear hw2 hbA c0 c1 hb k7 kl
            go_wp2
            exact ⟨⟨k + 1, hlt, by go_num, by rw [hu2.out], hb2, k72, kl2⟩, left_t hlt⟩
          · rw [show decide (x < M f) = false by simpa using hin] at hRi
            have hu2 : Hid (cdB (true && allB f (ls.take (k + 1))) = 7) := by show _ = _; rw [hu.out, if_neg hin]
            replace hRi := Lib.hid hRi
            clear hin hu hts hxk
            go_wp2_with fail
            refine call_then (hRi.out _) ?_
            intro w2 hw2
            have hbA := (Below.refl wr.heap.size wr).alloc (Nat.le_refl _) (.cells #[.int .u64 (lo x), .int .u64 (hi x)] 38 (0, 0))
            have hb2 := below_next (below_next hb hb.size hbA) (hb.alloc hb.size _).size hw2
            have k72 := keeps hw2 (keeps hbA k7)
            have kl2 := keeps hw2 (keeps hbA kl)
            clear hw2 hbA c0 c1 hb k7 kl
            go_wp2
            exact ⟨⟨k + 1, hlt, by go_num, by rw [hu2.out], hb2, k72, kl2⟩, left_t hlt⟩
        · obtain rfl : k = L := by omega
          have htk : ls.take k = ls := List.take_of_length_le (by rw [hL.out]; exact Nat.le_refl _)
          rw [htk]
          clear htk
          go_wp2
          exact ⟨⟨1, by go_num, .inr (.inl ⟨rfl, by rw [Bool.true_and]⟩), hb, k7, kl⟩, by simp [intOf]⟩
    · obtain ⟨a0, a1, u0, u1⟩ := blk2 kl
      rw [show ((1 : Nat) : Int) = 1 from rfl]
      go_wp2
      go_loopw [108, 19] (fun i s wr => ∃ k : Nat, k ≤ Lr ∧ i = .int .i64 (k : Int) ∧ s = .int .i64 (cdB (allB f ls && allB f (rs.take k))) ∧ Below w.heap.size w wr ∧ wr.heap[p17]? = some (.cells #[.slice A7 n7 c7, .slice B7 m7 d7] 28 (0, 0)) ∧ wr.heap[lb]? = some (.cells #[.slice A L c, .slice C Lr e] 22 (0, 0))) (fun i _ _ => Lr - (intOf i).toNat)
      case atStart => exact ⟨0, Nat.zero_le _, rfl, by simp [allB, cdB], hb, k7, kl⟩
      case round =>
        clear hb k7 kl
        obtain ⟨k, hk, rfl, rfl, hb, k7, kl⟩ := hrel
        by_cases hlt : k < Lr
        · obtain ⟨b, o, rfl, c0, c1⟩ := (hC.out.up hb) k (by rw [hLr.out]; exact hlt)
          have hxk := hr.at_ (k := k) (by rw [hLr.out]; exact hlt)
          have hts := Lib.hid (allB_take (f := f) (xs := rs) (k := k) (by rw [hLr.out]; exact hlt))
          have hRi := hRin.out (rs.getD k 0)
          have q0 : (0 : Int) ≤ (k : Int) := by omega
          have q1 : (k : Int) < (Lr : Int) := by omega
          generalize rs.getD k 0 = x at *
          have hu : Hid (cdB (allB f ls && allB f (rs.take (k + 1))) = if x < M f then cdB (allB f ls && allB f (rs.take k)) else 7) := by
            show _ = _
            rw [hts.out]
            by_cases hin : x < M f
            · rw [if_pos hin]; simp [hin]
            · rw [if_neg hin]; simp [hin, cdB]
          generalize hcc : cdB (allB f ls && allB f (rs.take k)) = cc at *
          replace hcc := Lib.hid hcc
          by_cases hin : x < M f
          · rw [show decide (x < M f) = true by simpa using hin] at hRi
            have hu2 : Hid (cdB (allB f ls && allB f (rs.take (k + 1))) = cc) := by show _ = _; rw [hu.out, if_pos hin]
            replace hRi := Lib.hid hRi
            clear hin hu hts hxk
            go_wp2_with fail
            refine call_then (hRi.out _) ?_
            intro w2 hw2
            have hbA := (Below.refl wr.heap.size wr).alloc (Nat.le_refl _) (.cells #[.int .u64 (lo x), .int .u64 (hi x)] 38 (0, 0))
            have hb2 := below_next (below_next hb hb.size hbA) (hb.alloc hb.size _).size hw2
            have k72 := keeps hw2 (keeps hbA k7)
            have kl2 := keeps hw2 (keeps hbA kl)
            clear hw2 hbA c0 c1 hb k7 kl
            go_wp2
            exact ⟨⟨k + 1, hlt, by go_num, by rw [hu2.out], hb2, k72, kl2⟩, left_t hlt⟩
          · rw [show decide (x < M f) = false by simpa using hin] at hRi
            have hu2 : Hid (cdB (allB f ls && allB f (rs.take (k + 1))) = 7) := by show _ = _; rw [hu.out, if_neg hin]
            replace hRi := Lib.hid hRi
            clear hin hu hts hxk
            go_wp2_with fail
            refine call_then (hRi.out _) ?_
            intro w2 hw2
            have hbA := (Below.refl wr.heap.size wr).alloc (Nat.le_refl _) (.cells #[.int .u64 (lo x), .int .u64 (hi x)] 38 (0, 0))
            have hb2 := below_next (below_next hb hb.size hbA) (hb.alloc hb.size _).size hw2
            have k72 := keeps hw2 (keeps hbA k7)
            have kl2 := keeps hw2 (keeps hbA kl)
            clear hw2 hbA c0 c1 hb k7 kl
            go_wp2
            exact ⟨⟨k + 1, hlt, by go_num, by rw [hu2.out], hb2, k72, kl2⟩, left_t hlt⟩
        · obtain rfl : k = Lr := by omega
          have htk : rs.take k = rs := List.take_of_length_le (by rw [hLr.out]; exact Nat.le_refl _)
          rw [htk]
          clear htk
          go_wp2
          exact ⟨⟨2, by go_num, .inr (.inr ⟨rfl, rfl⟩), hb, k7, kl⟩, by simp [intOf]⟩
    · clear kl hA hC hl hr hRin
      rcases hwant.out with ⟨hw1, hb1⟩ | ⟨hw1, hb1, hne⟩ | ⟨hw1, hb1, hne⟩
      · obtain ⟨rfl, rfl⟩ : n7 = 0 ∧ m7 = 0 := by
          rcases hnil.out with h | h
          · rw [hw1] at h; cases h
          · exact h
        rw [hb1, show cdB false = 7 from rfl]
        subst hw1
        clear hnil hwant hb1
        go_wp2_with fail
        refine (hs4.out _ _ _).mono ?_
        rintro e9 w11 ⟨A8, n8, c8, B8, m8, d8, rfl, hw, -⟩
        replace hb := below_next hb hb.size hw
        replace k7 := keeps hw k7
        clear hw hs4
        go_upto_region 26 with (fail)
        have k72 := alloc_keeps (o := .cells #[.slice A8 n8 c8, .slice B8 m8 d8] 28 (0, 0)) k7
        replace hb := hb.alloc hb.size (.cells #[.slice A8 n8 c8, .slice B8 m8 d8] 28 (0, 0))
        clear k7
        generalize (w11.alloc (.cells #[.slice A8 n8 c8, .slice B8 m8 d8] 28 (0, 0))) = w12 at *
        obtain ⟨a0, a1, u0, u1⟩ := blk2 k72
        go_wp2
        go_ret
        exact ⟨rfl, hb⟩
      · obtain ⟨rfl, rfl⟩ : n7 = 0 ∧ m7 = 0 := by
          rcases hnil.out with h | h
          · rw [hw1] at h; cases h
          · exact h
        have b0 : ((L : Int) != (Lr : Int)) = true := by rw [bne_iff_ne]; omega
        clear hne
        rw [hb1, show cdB true = 0 from rfl]
        subst hw1
        clear hnil hwant hb1
        go_wp2_with fail
        refine (hs4.out _ _ _).mono ?_
        rintro e9 w11 ⟨A8, n8, c8, B8, m8, d8, rfl, hw, -⟩
        replace hb := below_next hb hb.size hw
        replace k7 := keeps hw k7
        clear hw hs4
        go_upto_region 26 with (fail)
        have k72 := alloc_keeps (o := .cells #[.slice A8 n8 c8, .slice B8 m8 d8] 28 (0, 0)) k7
        replace hb := hb.alloc hb.size (.cells #[.slice A8 n8 c8, .slice B8 m8 d8] 28 (0, 0))
        clear k7
        generalize (w11.alloc (.cells #[.slice A8 n8 c8, .slice B8 m8 d8] 28 (0, 0))) = w12 at *
        obtain ⟨a0, a1, u0, u1⟩ := blk2 k72
        go_wp2
        go_ret
        exact ⟨rfl, hb⟩
      · subst hne
        rw [hb1, show cdB true = 0 from rfl]
        subst hw1
        clear hnil hwant hb1
        go_wp2_with fail
        refine (hs4.out _ _ _).mono ?_
        rintro e9 w11 ⟨A8, n8, c8, B8, m8, d8, rfl, hw, -⟩
        replace hb := below_next hb hb.size hw
        replace k7 := keeps hw k7
        clear hw hs4
        go_upto_region 26 with (fail)
        have k72 := alloc_keeps (o := .cells #[.slice A8 n8 c8, .slice B8 m8 d8] 28 (0, 0)) k7
        replace hb := hb.alloc hb.size (.cells #[.slice A8 n8 c8, .slice B8 m8 d8] 28 (0, 0))
        clear k7
        generalize (w11.alloc (.cells #[.slice A8 n8 c8, .slice B8 m8 d8] 28 (0, 0))) = w12 at *
        obtain ⟨a0, a1, u0, u1⟩ := blk2 k72
        go_wp2
        go_ret
        exact ⟨rfl, hb⟩
end Go.Proofs.Ytobannolnjmegaa
