/-
  The law's walk: the greatest that goes into two.
-/
import Derived.Test.YtbpedpkhhjfhjaaDoorPoU
import Derived.Deep.DeepCutAuto
import Derived.Deep.CutBlock
namespace Go.Proofs.YtbpedpkhhjfhjaaDoor
open Go.RowKit F Flow
set_option linter.unusedVariables false
set_option linter.unusedSimpArgs false
attribute [local go_sem] eql_elem

/-- Divide where nothing is left. -/
theorem pdiv_nil {f : Int} (ft : Ft f) (Z D : Nat → Int) (nz nd : Nat) (hZ : ∀ t, 0 ≤ Z t ∧ Z t < M f) (hD : ∀ t, 0 ≤ D t ∧ D t < M f) (hzt : 0 < nz → Z (nz - 1) ≠ 0) (hd0 : 0 < nd) (hdt : D (nd - 1) ≠ 0) (hz : nz ≤ 64) (hd : nd ≤ 64) (hI : Idl (M f) (ext D nd) (ext Z nz)) (A B : Option Addr) (c d : Nat) (w : World) (hA : ElemsAt w A (lst Z nz)) (hB : ElemsAt w B (lst D nd)) :
    Calls Tryd.prog 35 #[.int .u8 f, .slice A nz c, .slice B nd d] w fun e w' => (∃ A1 A2 nT, e = .returned (.tuple #[.slice A1 nT nT, .slice A2 0 0, .int .i64 0])) ∧ Below w.heap.size w w' := by
  have h := pdiv_any ft Z D nz nd A B c d (lim_f (f := f) hZ) (lim_f (f := f) hD) (by omega) (by omega) (by rw [rd_same hD, tl_full (fun _ => hdt)]; omega) w hA hB
  rw [rd_same hZ, rd_same hD, tl_full hzt, tl_full (fun _ => hdt)] at h
  refine h.mono ?_
  rintro e w' ⟨A1, A2, T, R, nT, nR, rfl, hb, -, -, hDv⟩
  obtain rfl := rest_nil ft hDv hI hD hdt
  exact ⟨⟨A1, A2, nT, rfl⟩, hb⟩
theorem long_row (w : World) (g : Nat) (h : Row w g (lst (fun _ => 0) 65)) : Row ((w.setCell ⟨g, 128, none⟩ (.int .u64 1)).setCell ⟨g, 129, none⟩ (.int .u64 0)) g (lst (fun t => if t = 64 then 1 else 0) 65) := by
  have := h.set (k := 64) (by rw [lst_length]; decide) 1
  rw [lst_set] at this
  exact this
theorem long_tl : tl (fun t => if t = 64 then (1 : Int) else 0) 65 = 65 := by decide +kernel
theorem nil_of_zero {f : Int} {P : Nat → Int} {L n : Nat} {F G : Nat → Int} {k : Nat} (hP : ∀ t, 0 ≤ P t ∧ P t < M f) (htop : 0 < L → P (L - 1) ≠ 0) (hm : ∀ i, Eqm (M f) (ext P L i) (ml (lst F n) (ext G k) i)) (hk : k = 0) : L = 0 := by
  rcases Nat.eq_zero_or_pos L with h | h
  · exact h
  · have h1 := hm (L - 1)
    have e0 : ext G k = fun _ => 0 := by funext t; rw [hk]; exact ext_far _ (Nat.zero_le _)
    rw [e0, ml_nil, ext_at P (by omega)] at h1
    exact absurd (in_eq (hP _) ⟨Int.le_refl _, M_pos f⟩ h1) (htop h)
theorem ElemsAt.offz {w : World} {A : Option Addr} {p i j : Nat} {F : Nat → Int} {n : Nat} {v u : Value} (h : ElemsAt w A (lst F n)) (hp : n = 0 ∨ ∃ b o, A = some ⟨b, o, none⟩ ∧ b ≠ p) : ElemsAt ((w.setCell ⟨p, i, none⟩ v).setCell ⟨p, j, none⟩ u) A (lst F n) := by
  rcases hp with h0 | ⟨b, o, rfl, hne⟩
  · intro k hk; rw [lst_length] at hk; omega
  · exact h.far2 hne
set_option maxRecDepth 20000 in
set_option maxHeartbeats 4000000 in
theorem polyCommon_f (n f : Int) (hF : ∀ w, Calls Tryd.prog 11 #[.int .u8 n] w fun e w' => e = .returned (.int .u8 f) ∧ Below w.heap.size w w') (ft : Ft f) (hR : ∀ m, m ≤ 10 → RootOf f m (rt f m)) (f0 : 0 ≤ f ∧ f ≤ 2)
    (A B D : Option Addr) (ls ms os : List Int) (N c N2 c2 N3 c3 : Nat) (hl : ls.length = N) (hm : N ≤ maxLen) (hls : ElemsOK ls) (hl2 : ms.length = N2) (hm2 : N2 ≤ maxLen) (hms : ElemsOK ms) (hl3 : os.length = N3) (hm3 : N3 ≤ maxLen) (hos : ElemsOK os) (w : World) (hT : Tabs w) (hA : ElemsAt w A ls) (hB : ElemsAt w B ms) (hC : ElemsAt w D os) :
    Calls Tryd.prog 9 #[.int .u8 n, .slice A N c, .slice B N2 c2, .slice D N3 c3] w fun e w' => e = .returned (.bool true) ∧ Below w.heap.size w w' := by
  have hw8 : IntKind.i64.wrap f = f := IntWalk.i64_in _ (by omega)
  have hs1 := Lib.hid (fun w hA => some_any f ls A N c 6 hl hm hls (by omega) w hA)
  have hs2 := Lib.hid (fun w hA => some_any f ms B N2 c2 6 hl2 hm2 hms (by omega) w hA)
  have hs3 := Lib.hid (fun w hA => some_any f os D N3 c3 5 hl3 hm3 hos (by omega) w hA)
  unfold SOut at hs1 hs2 hs3
  have hp0 := rl_in f ls
  have hq0 := rl_in f ms
  have hr0 := rl_in f os
  have hn6 : min N 6 ≤ 6 := by omega
  have hk6 : min N2 6 ≤ 6 := by omega
  have ho5 : min N3 5 ≤ 5 := by omega
  generalize rl f ls = F at *
  generalize rl f ms = G at *
  generalize rl f os = O at *
  generalize min N 6 = n1 at *
  generalize min N2 6 = k1 at *
  generalize min N3 5 = o1 at *
  have hrt := Lib.hid (fun A c hc => rtrim_fix O o1 A c (lim_f (f := f) hr0) (by omega) hc)
  have htl := tl_le O o1
  have hot : 0 < tl O o1 → O (tl O o1 - 1) ≠ 0 := tl_last O o1
  generalize tl O o1 = k0 at *
  obtain ⟨P1, L1, hP1, hL1, ht1, hm1, -, hpr1⟩ := products ft hR F O n1 k0 hp0 hr0 (by omega) (by omega) (by omega)
  obtain ⟨P2, L2, hP2, hL2, ht2, hm2', -, hpr2⟩ := products ft hR G O k1 k0 hq0 hr0 (by omega) (by omega) (by omega)
  have hI1 : Idl (M f) (ext O k0) (ext P1 L1) := .eqm (idl_ml _) (fun k => (hm1 k).symm')
  have hI2 : Idl (M f) (ext O k0) (ext P2 L2) := .eqm (idl_ml _) (fun k => (hm2' k).symm')
  have hz1 := nil_of_zero hP1 ht1 hm1
  have hz2 := nil_of_zero hP2 ht2 hm2'
  have hcm := Lib.hid (fun A B c d w hA hB => pcommon_any ft P1 P2 L1 L2 hP1 hP2 (by omega) (by omega) A B c d w hA hB)
  have hM1 : 1 < M f := by rcases ft.one2 with rfl | rfl <;> decide
  have hcl := Lib.hid (fun A B c d w hA hB => pcommon_many ft (fun t => if t = 64 then 1 else 0) P1 65 L1 (fun t => by show 0 ≤ (if t = 64 then (1 : Int) else 0) ∧ (if t = 64 then (1 : Int) else 0) < M f; split <;> omega) hP1 (by omega) (by omega) (by rw [long_tl]; decide) A B c d w hA hB)
  have hmk : ∀ w : World, (Instr.makeSlice 22 (.int .i64 65) (.int .i64 65)).run Tryd.prog w = .ok (.slice (some ⟨w.heap.size, 0, none⟩) 65 65) (w.alloc (.cells (ecells (List.replicate 65 0)).toArray 25)) := fun w => make_elems 65 (by omega) w
  rw [tl_full ht1, tl_full ht2] at hcm
  unfold ROut at hpr1 hpr2
  replace hpr1 := Lib.hid hpr1
  replace hpr2 := Lib.hid hpr2
  replace hF := Lib.hid hF
  replace hm1 := Lib.hid hm1
  replace hm2' := Lib.hid hm2'
  clear hl hm hls hl2 hm2 hms hl3 hm3 hos hp0 hq0 hR
  go_enter Tryd.func9, Tryd.ntmps9
  go_wp2_with fail
  refine call_then (pawake _ hT) ?_
  intro w1 hb
  go_wp2_with fail
  refine call_then (hF.out _) ?_
  intro w2 hb2
  replace hb := below_next hb hb.size hb2
  clear hb2
  go_wp2_with fail
  refine call_then (hF.out _) ?_
  intro w2 hb2
  replace hb := below_next hb hb.size hb2
  clear hb2
  go_wp2_with fail
  refine (hs1.out _ (hA.up hb)).mono ?_
  rintro e w2 ⟨Ap, cp, hcp, rfl, hb2, hp, -⟩
  replace hb := below_next hb hb.size hb2
  clear hb2
  go_wp2_with fail
  refine (hs2.out _ (hB.up hb)).mono ?_
  rintro e w2 ⟨Aq, cq, hcq, rfl, hb2, hq, -⟩
  replace hb := below_next hb hb.size hb2
  replace hp := hp.up hb2
  clear hb2
  go_wp2_with fail
  refine (hs3.out _ (hC.up hb)).mono ?_
  rintro e w2 ⟨Ao, co, hco, rfl, hb2, ho, -⟩
  replace hb := below_next hb hb.size hb2
  replace hp := hp.up hb2
  replace hq := hq.up hb2
  clear hb2 hA hB hC hs1 hs2 hs3
  obtain ⟨Ar, hr1, hr2⟩ := hrt.out Ao co hco
  go_wp2_with fail
  refine call_then (hr1 _ ho) ?_
  intro w4 hb2
  have hr := (hr2 _ ho).up hb2
  replace hb := below_next hb hb.size hb2
  replace hp := hp.up hb2
  replace hq := hq.up hb2
  clear hb2 hr1 hr2 hrt ho
  go_wp2_with fail
  refine (hpr1.out _ _ _ _ _ hcp (by omega) hp hr).mono ?_
  rintro e w5 ⟨Ax, cx, hcx, rfl, hb2, hx⟩
  replace hb := below_next hb hb.size hb2
  replace hq := hq.up hb2
  replace hr := hr.up hb2
  clear hb2 hpr1 hp
  go_wp2_with fail
  refine (hpr2.out _ _ _ _ _ hcq (by omega) hq hr).mono ?_
  rintro e w6 ⟨Ay, cy, hcy, rfl, hb2, hy⟩
  replace hb := below_next hb hb.size hb2
  replace hx := hx.up hb2
  replace hr := hr.up hb2
  clear hb2 hpr2 hq
  go_wp2_with fail
  refine (hcm.out _ _ _ _ _ hx hy).mono ?_
  rintro e w7 (⟨l1, l2, rfl, hb2⟩ | ⟨Ad, Cf, nc, hps, hnc, rfl, hb2, hL, hG⟩)
  · replace hb := below_next hb hb.size hb2
    replace hx := hx.up hb2
    replace hy := hy.up hb2
    replace hr := hr.up hb2
    clear hb2
    subst l1
    subst l2
    have htr : True := trivial
    go_upto_region 8 with (fail)
    have q6 := zrow w7 65
    have hb3 := hb.alloc hb.size (.cells (ecells (List.replicate 65 0)).toArray 25)
    refine name_wp (fun w8 => Below w.heap.size w w8 ∧ Row w8 w7.heap.size (lst (fun _ => 0) 65) ∧ ElemsAt w8 Ax (lst P1 0) ∧ ElemsAt w8 Ay (lst P2 0) ∧ ElemsAt w8 Ar (lst O k0)∧ True) ⟨hb3, q6, hx.up ((Below.refl _ _).alloc (Nat.le_refl _) _), hy.up ((Below.refl _ _).alloc (Nat.le_refl _) _), hr.up ((Below.refl _ _).alloc (Nat.le_refl _) _), trivial⟩ ?_
    have hg7 : w.heap.size ≤ w7.heap.size := hb.size
    have hlt7 : Hid (∀ (A : Option Addr) (F : Nat → Int) (n : Nat), ElemsAt w7 A (lst F n) → n = 0 ∨ ∃ b o, A = some ⟨b, o, none⟩ ∧ b ≠ w7.heap.size) := Lib.hid (fun A F n h => by
      rcases Nat.eq_zero_or_pos n with h0 | h0
      · exact .inl h0
      · obtain ⟨b, o, e, h1, _⟩ := h 0 (by rw [lst_length]; exact h0)
        exact .inr ⟨b, o, e, Nat.ne_of_lt (World.block_lt_of_cell? _ _ h1)⟩)
    have kx := Lib.hid (hlt7.out _ _ _ hx)
    have ky := Lib.hid (hlt7.out _ _ _ hy)
    have kr := Lib.hid (hlt7.out _ _ _ hr)
    skip
    clear hb hx hy hr hb3 q6 hmk hlt7 htr
    generalize w7.heap.size = g7 at *
    rintro w8 ⟨hb, q6, hx, hy, hr, htr⟩
    have d0 : w8.cell? ⟨g7, 128, none⟩ = some (.int .u64 (lo 0)) := q6.lo (k := 64) (by rw [lst_length]; decide)
    have d1 : w8.cell? ⟨g7, 129, none⟩ = some (.int .u64 (hi 0)) := q6.hi (k := 64) (by rw [lst_length]; decide)
    have e0 := q6.free 128
    have e1 := q6.free 129
    have q7 := long_row w8 g7 q6
    go_wp2_with fail
    refine name_calls (fun w9 => Below w.heap.size w w9 ∧ Row w9 g7 (lst (fun t => if t = 64 then 1 else 0) 65) ∧ ElemsAt w9 Ax (lst P1 0) ∧ ElemsAt w9 Ay (lst P2 0) ∧ ElemsAt w9 Ar (lst O k0)∧ True) ⟨(hb.setCell (p := ⟨g7, 128, none⟩) hg7 _).setCell (p := ⟨g7, 129, none⟩) hg7 _, q7, (by first | exact hx.offz kx.out | exact hx.offz (.inl rfl)), (by first | exact hy.offz ky.out | exact hy.offz (.inl rfl)), hr.offz kr.out, trivial⟩ ?_
    clear hb hx hy hr q6 q7 d0 d1 e0 e1 hg7 kx ky kr htr
    rintro w9 ⟨hb, q6, hx, hy, hr, htr⟩
    refine call_then (hcl.out _ _ _ _ _ q6.elems hx) ?_
    intro w10 hb2
    replace hb := below_next hb hb.size hb2
    replace hx := hx.up hb2
    replace hy := hy.up hb2
    replace hr := hr.up hb2
    clear hb2 htr q6 hx hy hr hcl hcm
    go_wp2
    go_ret
    exact ⟨rfl, hb⟩
  · replace hb := below_next hb hb.size hb2
    replace hx := hx.up hb2
    replace hy := hy.up hb2
    replace hr := hr.up hb2
    have hd := hL.elems
    clear hb2 hL
    have hk0 : 0 < k0 := by
      rcases Nat.eq_zero_or_pos k0 with h | h
      · have h1 := hz1 h
        have h2 := hz2 h
        omega
      · exact h
    go_upto_region 8 with (fail)
    have q6 := zrow w7 65
    have hb3 := hb.alloc hb.size (.cells (ecells (List.replicate 65 0)).toArray 25)
    refine name_wp (fun w8 => Below w.heap.size w w8 ∧ Row w8 w7.heap.size (lst (fun _ => 0) 65) ∧ ElemsAt w8 Ax (lst P1 L1) ∧ ElemsAt w8 Ay (lst P2 L2) ∧ ElemsAt w8 Ar (lst O k0)∧ ElemsAt w8 Ad (lst Cf nc)) ⟨hb3, q6, hx.up ((Below.refl _ _).alloc (Nat.le_refl _) _), hy.up ((Below.refl _ _).alloc (Nat.le_refl _) _), hr.up ((Below.refl _ _).alloc (Nat.le_refl _) _), hd.up ((Below.refl _ _).alloc (Nat.le_refl _) _)⟩ ?_
    have hg7 : w.heap.size ≤ w7.heap.size := hb.size
    have hlt7 : Hid (∀ (A : Option Addr) (F : Nat → Int) (n : Nat), ElemsAt w7 A (lst F n) → n = 0 ∨ ∃ b o, A = some ⟨b, o, none⟩ ∧ b ≠ w7.heap.size) := Lib.hid (fun A F n h => by
      rcases Nat.eq_zero_or_pos n with h0 | h0
      · exact .inl h0
      · obtain ⟨b, o, e, h1, _⟩ := h 0 (by rw [lst_length]; exact h0)
        exact .inr ⟨b, o, e, Nat.ne_of_lt (World.block_lt_of_cell? _ _ h1)⟩)
    have kx := Lib.hid (hlt7.out _ _ _ hx)
    have ky := Lib.hid (hlt7.out _ _ _ hy)
    have kr := Lib.hid (hlt7.out _ _ _ hr)
    have kd := Lib.hid (hlt7.out _ _ _ hd)
    clear hb hx hy hr hb3 q6 hmk hlt7 hd
    generalize w7.heap.size = g7 at *
    rintro w8 ⟨hb, q6, hx, hy, hr, hd⟩
    have d0 : w8.cell? ⟨g7, 128, none⟩ = some (.int .u64 (lo 0)) := q6.lo (k := 64) (by rw [lst_length]; decide)
    have d1 : w8.cell? ⟨g7, 129, none⟩ = some (.int .u64 (hi 0)) := q6.hi (k := 64) (by rw [lst_length]; decide)
    have e0 := q6.free 128
    have e1 := q6.free 129
    have q7 := long_row w8 g7 q6
    go_wp2_with fail
    refine name_calls (fun w9 => Below w.heap.size w w9 ∧ Row w9 g7 (lst (fun t => if t = 64 then 1 else 0) 65) ∧ ElemsAt w9 Ax (lst P1 L1) ∧ ElemsAt w9 Ay (lst P2 L2) ∧ ElemsAt w9 Ar (lst O k0)∧ ElemsAt w9 Ad (lst Cf nc)) ⟨(hb.setCell (p := ⟨g7, 128, none⟩) hg7 _).setCell (p := ⟨g7, 129, none⟩) hg7 _, q7, (by first | exact hx.offz kx.out | exact hx.offz (.inl rfl)), (by first | exact hy.offz ky.out | exact hy.offz (.inl rfl)), hr.offz kr.out, hd.offz kd.out⟩ ?_
    clear hb hx hy hr q6 q7 d0 d1 e0 e1 hg7 kx ky kr hd
    rintro w9 ⟨hb, q6, hx, hy, hr, hd⟩
    refine call_then (hcl.out _ _ _ _ _ q6.elems hx) ?_
    intro w10 hb2
    replace hb := below_next hb hb.size hb2
    replace hx := hx.up hb2
    replace hy := hy.up hb2
    replace hr := hr.up hb2
    replace hd := hd.up hb2
    clear hb2 q6 hcl hcm
    have hct := hG.top
    have hcp0 := hG.pos
    have hne : Cf (nc - 1) ≠ 0 := by rw [hct]; decide
    have hv1 := Lib.hid (fun A B c d w hA hB => pdiv_nil ft P1 Cf L1 nc hP1 hG.c ht1 hcp0 hne (by omega) (by omega) hG.dF A B c d w hA hB)
    have hv2 := Lib.hid (fun A B c d w hA hB => pdiv_nil ft P2 Cf L2 nc hP2 hG.c ht2 hcp0 hne (by omega) (by omega) hG.dG A B c d w hA hB)
    have hv3 := Lib.hid (fun A B c d w hA hB => pdiv_nil ft Cf O nc k0 hG.c hr0 (fun _ => hne) hk0 (hot hk0) (by omega) (by omega) (hG.most _ hI1 hI2) A B c d w hA hB)
    obtain ⟨q, hq⟩ : ∃ q, q = nc - 1 := ⟨_, rfl⟩
    obtain ⟨b, o, rfl, c0, c1⟩ := hd q (by rw [lst_length]; omega)
    rw [lst_at Cf (by omega), hq, hct, ← hq] at c0 c1
    rw [show lo 1 = 1 from rfl] at c0
    rw [show hi 1 = 0 from rfl] at c1
    have eq : (nc : Int) - 1 = (q : Int) := by omega
    have q1 : (q : Int) < (nc : Int) := by omega
    have y3 : ((nc : Int) == 0) = false := by rw [beq_eq_false_iff_ne]; omega
    replace hq := Lib.hid hq
    clear hct hcp0 hne hG hI1 hI2 hot ht1 ht2 hz1 hz2 hP1 hP2 hr0 ft
    by_cases c1z : L1 = 0
    · have y5 : (((L1 : Nat) : Int) == 0) = true := by rw [beq_iff_eq]; omega
      have y6 : (((L2 : Nat) : Int) == 0) = false := by rw [beq_eq_false_iff_ne]; omega
      clear c1z hps
      go_wp2
      have hn := (Below.refl w10.heap.size w10).alloc (Nat.le_refl _) (.cells #[.slice Ax L1 cx, .slice Ay L2 cy] 22 (0, 0))
      refine name_wp (fun w11 => Below w.heap.size w w11 ∧ ElemsAt w11 Ax (lst P1 L1) ∧ ElemsAt w11 Ay (lst P2 L2) ∧ ElemsAt w11 Ar (lst O k0) ∧ ElemsAt w11 (some ⟨b, o, none⟩) (lst Cf nc) ∧ w11.heap[w10.heap.size]? = some (.cells #[.slice Ax L1 cx, .slice Ay L2 cy] 22 (0, 0))) ⟨below_next hb hb.size hn, hx.up hn, hy.up hn, hr.up hn, hd.up hn, alloc_at rfl⟩ ?_
      clear hb hx hy hr hd hn c0 c1 y5
      generalize w10.heap.size = pb at *
      rintro w11 ⟨hb, hx, hy, hr, hd, kb⟩
      go_loopw [106] (fun i wr => ∃ j : Nat, j ≤ 2 ∧ i = .int .i64 (j : Int) ∧ Below w11.heap.size w11 wr) (fun i _ => 2 - (intOf i).toNat)
      case atStart => exact ⟨0, Nat.zero_le _, rfl, Below.refl _ _⟩
      case round =>
        obtain ⟨j, hj, rfl, hv⟩ := hrel
        rcases (by omega : j = 0 ∨ j = 1 ∨ j = 2) with rfl | rfl | rfl
        · rw [show ((0 : Nat) : Int) = 0 from rfl]
          have k9 := keeps hv kb
          obtain ⟨s0, s1, s2, s3⟩ := blk2 k9
          have l9 := lt_of_get k9
          clear k9
          go_wp2_with fail
          refine (hv1.out _ _ _ _ _ (hx.up hv) (hd.up hv)).mono ?_
          rintro e w12 ⟨⟨A1, A2, nT, rfl⟩, hb2⟩
          replace hv := below_next hv hv.size hb2
          clear hb2 s0 s1 s2 s3 l9
          go_wp2
          exact ⟨⟨1, by omega, by go_num, hv⟩, by simp [intOf]⟩
        · rw [show ((1 : Nat) : Int) = 1 from rfl]
          have k9 := keeps hv kb
          obtain ⟨s0, s1, s2, s3⟩ := blk2 k9
          have l9 := lt_of_get k9
          clear k9
          go_wp2_with fail
          refine (hv2.out _ _ _ _ _ (hy.up hv) (hd.up hv)).mono ?_
          rintro e w12 ⟨⟨A1, A2, nT, rfl⟩, hb2⟩
          replace hv := below_next hv hv.size hb2
          clear hb2 s0 s1 s2 s3 l9
          go_wp2
          exact ⟨⟨2, by omega, by go_num, hv⟩, by simp [intOf]⟩
        · rw [show ((2 : Nat) : Int) = 2 from rfl]
          go_wp2_with fail
          refine (hv3.out _ _ _ _ _ (hd.up hv) (hr.up hv)).mono ?_
          rintro e w12 ⟨⟨A1, A2, nT, rfl⟩, hb2⟩
          replace hb := below_next hb hb.size (below_next hv hv.size hb2)
          clear hb2 hv hx hy hr hd kb
          go_wp2
          go_ret
          exact ⟨rfl, hb⟩
    · have y5 : (((L1 : Nat) : Int) == 0) = false := by rw [beq_eq_false_iff_ne]; omega
      clear c1z hps
      go_wp2
      have hn := (Below.refl w10.heap.size w10).alloc (Nat.le_refl _) (.cells #[.slice Ax L1 cx, .slice Ay L2 cy] 22 (0, 0))
      refine name_wp (fun w11 => Below w.heap.size w w11 ∧ ElemsAt w11 Ax (lst P1 L1) ∧ ElemsAt w11 Ay (lst P2 L2) ∧ ElemsAt w11 Ar (lst O k0) ∧ ElemsAt w11 (some ⟨b, o, none⟩) (lst Cf nc) ∧ w11.heap[w10.heap.size]? = some (.cells #[.slice Ax L1 cx, .slice Ay L2 cy] 22 (0, 0))) ⟨below_next hb hb.size hn, hx.up hn, hy.up hn, hr.up hn, hd.up hn, alloc_at rfl⟩ ?_
      clear hb hx hy hr hd hn c0 c1 y5
      generalize w10.heap.size = pb at *
      rintro w11 ⟨hb, hx, hy, hr, hd, kb⟩
      go_loopw [106] (fun i wr => ∃ j : Nat, j ≤ 2 ∧ i = .int .i64 (j : Int) ∧ Below w11.heap.size w11 wr) (fun i _ => 2 - (intOf i).toNat)
      case atStart => exact ⟨0, Nat.zero_le _, rfl, Below.refl _ _⟩
      case round =>
        obtain ⟨j, hj, rfl, hv⟩ := hrel
        rcases (by omega : j = 0 ∨ j = 1 ∨ j = 2) with rfl | rfl | rfl
        · rw [show ((0 : Nat) : Int) = 0 from rfl]
          have k9 := keeps hv kb
          obtain ⟨s0, s1, s2, s3⟩ := blk2 k9
          have l9 := lt_of_get k9
          clear k9
          go_wp2_with fail
          refine (hv1.out _ _ _ _ _ (hx.up hv) (hd.up hv)).mono ?_
          rintro e w12 ⟨⟨A1, A2, nT, rfl⟩, hb2⟩
          replace hv := below_next hv hv.size hb2
          clear hb2 s0 s1 s2 s3 l9
          go_wp2
          exact ⟨⟨1, by omega, by go_num, hv⟩, by simp [intOf]⟩
        · rw [show ((1 : Nat) : Int) = 1 from rfl]
          have k9 := keeps hv kb
          obtain ⟨s0, s1, s2, s3⟩ := blk2 k9
          have l9 := lt_of_get k9
          clear k9
          go_wp2_with fail
          refine (hv2.out _ _ _ _ _ (hy.up hv) (hd.up hv)).mono ?_
          rintro e w12 ⟨⟨A1, A2, nT, rfl⟩, hb2⟩
          replace hv := below_next hv hv.size hb2
          clear hb2 s0 s1 s2 s3 l9
          go_wp2
          exact ⟨⟨2, by omega, by go_num, hv⟩, by simp [intOf]⟩
        · rw [show ((2 : Nat) : Int) = 2 from rfl]
          go_wp2_with fail
          refine (hv3.out _ _ _ _ _ (hd.up hv) (hr.up hv)).mono ?_
          rintro e w12 ⟨⟨A1, A2, nT, rfl⟩, hb2⟩
          replace hb := below_next hb hb.size (below_next hv hv.size hb2)
          clear hb2 hv hx hy hr hd kb
          go_wp2
          go_ret
          exact ⟨rfl, hb⟩
end Go.Proofs.YtbpedpkhhjfhjaaDoor
