/-
  A proof, made.
-/
import Derived.Test.YtebgfelbffgnbaaGreatDoorCjR
import Derived.Test.YtebgfelbffgnbaaGreatDoorBQ
import Derived.Deep.DeepCutAuto
import Derived.Deep.CutBlock
namespace Go.Proofs.YtebgfelbffgnbaaGreatDoor
open Go.RowKit Flow F
set_option linter.unusedVariables false
set_option linter.unusedSimpArgs false
attribute [local go_sem] eql_elem

/-- A proof's elements: the seeds, then coefficients. -/
def proofL (f : Int) (sd : List Int) (P : Nat → Int) (L n t : Nat) : Int := if t < n then add f 0 (sd.getD t 0) else if t - n < L then P (t - n) else 0
def ProveOut (x : Ci) (sd : List Int) (qs : List (List Int)) (kk D : Nat) (w : World) (e : Ending) (w' : World) : Prop :=
  ∃ (C : Nat → Nat → Int) (P : Nat → Int) (L g : Nat), (∀ i, i < x.arityN → CfOf x.f kk D (wvF x.f sd qs i) (C i)) ∧ Poly x.f P L ∧ L ≤ 2 * (D - 1) + 1 ∧ (∀ t, Eqm (M x.f) (pf t P L) (gI x (fun i => pf t (C i) D))) ∧
    e = .returned (.tuple #[.slice (some ⟨g, 0, none⟩) x.proofN x.proofN, .int .i64 0]) ∧ Below w.heap.size w w' ∧ w.heap.size ≤ g ∧ Row w' g (lst (proofL x.f sd P L x.arityN) x.proofN)
theorem check_good {x : Ci} (h : x.Good) (w : World) : Calls Tryz.prog 48 #[cvl x] w fun e w' => e = .returned (.int .i64 0) ∧ Below w.heap.size w w' := by
  have h1 := ccheck_any x.k x.f x.b x.l x.w x.c w
  have h2 : (Ci.mk x.k x.f x.b x.l x.w x.c).code = 0 := h.code
  rw [h2] at h1
  exact h1
/-- What isn't of these types isn't a proof's own. -/
theorem PrSt.free {x : Ci} {sd : List Int} {P G D : Nat} {R : Nat → Nat} {pw pg pf : Nat} {a : Int} {A : Option Addr} {n c : Nat} {m : Int} {s : List (List Int)} {own : Nat → Prop} {w : World} (h : PrSt x sd P G D R pw pg pf a A n c m s own w) {p : Nat} (hp : w.heap[p]? = some (cobj x)) : ¬ own p := by
  rw [h.own]
  rintro ((e | e | ⟨i, hin, e⟩) | e | e | e | ⟨o, e⟩)
  · exact cells_ne hp h.wp.p (by decide) e
  · exact cells_ne hp h.wp.g (by decide) e
  · exact cells_ne hp (h.wp.r i hin) (by decide) e
  · exact cells_ne hp h.kw (by decide) e
  · exact cells_ne hp h.kg (by decide) e
  · exact cells_ne hp h.kf (by decide) e
  · exact cells_ne hp (h.gad.row e) (by decide) rfl
/-- Behind the first variables: the field, the gadget. -/
structure Reg4 (x : Ci) (w : World) (b11 b12 : Nat) (ga : Int) (gA : Option Addr) (gn gc : Nat) (gm : Int) (w' : World) : Prop where
  b : Below w.heap.size w w'
  c : w'.heap[w.heap.size]? = some (cobj x)
  k11 : w'.heap[b11]? = some (.cells #[.int .u8 x.f] 31 (0, 0))
  k12 : w'.heap[b12]? = some (.cells #[.int .u8 ga, .slice gA gn gc, .int .i64 gm] 43 (0, 0))
  gad : GadIs x (.agg #[.int .u8 ga, .slice gA gn gc, .int .i64 gm]) w'
  l11 : w.heap.size ≤ b11
  l12 : w.heap.size ≤ b12
  lg : ∀ b o, gA = some ⟨b, o, none⟩ → w.heap.size ≤ b
theorem Reg4.up {x : Ci} {w : World} {b11 b12 : Nat} {ga : Int} {gA : Option Addr} {gn gc : Nat} {gm : Int} {w' w2 : World} (h : Reg4 x w b11 b12 ga gA gn gc gm w') (hv : Below w'.heap.size w' w2) : Reg4 x w b11 b12 ga gA gn gc gm w2 :=
  ⟨below_next h.b h.b.size hv, keeps hv h.c, keeps hv h.k11, keeps hv h.k12, h.gad.up hv, h.l11, h.l12, h.lg⟩
theorem Reg4.far {x : Ci} {w : World} {b11 b12 : Nat} {ga : Int} {gA : Option Addr} {gn gc : Nat} {gm : Int} {w' : World} (h : Reg4 x w b11 b12 ga gA gn gc gm w') {b13 : Nat} {v0 : Value} (k : w'.heap[b13]? = some (.cells #[v0] 91 (0, 0))) (hl : w.heap.size ≤ b13) (v : Value) : Reg4 x w b11 b12 ga gA gn gc gm (w'.setCell ⟨b13, 0, none⟩ v) :=
  ⟨h.b.setCell (p := ⟨b13, 0, none⟩) hl _, store_far h.c (cells_ne (show w'.heap[w.heap.size]? = some (.cells (ccells x).toArray 33 (0, 0)) from h.c) k (by decide)), store_far h.k11 (cells_ne h.k11 k (by decide)), store_far h.k12 (cells_ne h.k12 k (by decide)), h.gad.same (fun b o e => (store_far (h.gad.row e) (cells_ne (h.gad.row e) k (by decide))).trans (h.gad.row e).symm), h.l11, h.l12, h.lg⟩
theorem Reg4.cells {x : Ci} {w : World} {b11 b12 : Nat} {ga : Int} {gA : Option Addr} {gn gc : Nat} {gm : Int} {w' : World} (h : Reg4 x w b11 b12 ga gA gn gc gm w') : w'.cell? ⟨b11, 0, none⟩ = some (.int .u8 x.f) ∧ w'.cell? ⟨b12, 0, none⟩ = some (.int .u8 ga) ∧ w'.cell? ⟨b12, 1, none⟩ = some (.slice gA gn gc) ∧ w'.cell? ⟨b12, 2, none⟩ = some (.int .i64 gm) := by
  simp [World.cell?, h.k11, h.k12]
/-- Behind the wires. -/
structure Reg7 (x : Ci) (w : World) (b11 b12 : Nat) (ga : Int) (gA : Option Addr) (gn gc : Nat) (gm : Int) (sd : List Int) (n D b13 P G : Nat) (R : Nat → Nat) (w' : World) : Prop where
  r4 : Reg4 x w b11 b12 ga gA gn gc gm w'
  k13 : w'.heap[b13]? = some (.cells #[.pointer (some ⟨P, 0, none⟩)] 91 (0, 0))
  wp : Wp P G n D R (sdV x.f sd) n 0 w'
  gn' : ∀ b o, gA = some ⟨b, o, none⟩ → ¬ ownW P G n R b
  lw : ∀ b, ownW P G n R b → w.heap.size ≤ b
  l13 : w.heap.size ≤ b13
/-- So many seeds laid. -/
def sdL (f : Int) (sd : List Int) (j t : Nat) : Int := if t < j then add f 0 (sd.getD t 0) else 0
theorem sdL_set (f : Int) (sd : List Int) (j N : Nat) : (lst (sdL f sd j) N).set j (add f 0 (sd.getD j 0)) = lst (sdL f sd (j + 1)) N := by
  rw [lst_set]
  refine lst_congr (fun t _ => ?_)
  unfold sdL
  by_cases e : t = j
  · subst e; rw [if_pos rfl, if_pos (Nat.lt_succ_self _)]
  · rw [if_neg e]
    by_cases h : t < j
    · rw [if_pos h, if_pos (by omega)]
    · rw [if_neg h, if_neg (by omega)]
theorem proofL_copied (f : Int) (sd : List Int) (P : Nat → Int) (L n N : Nat) : lst (copied (sdL f sd n) P n L) N = lst (proofL f sd P L n) N := lst_congr (fun t _ => by
  unfold copied sdL proofL
  by_cases h : t < n
  · rw [if_pos h, if_pos h, if_pos h]
  · rw [if_neg h, if_neg h, if_neg h])
theorem Lies.far {B : Nat} {w : World} {A : Option Addr} {F : Nat → Int} {n c i j : Nat} {u v : Value} (h : Lies B w A F n) (hA : ∀ a, A = some a → a.block ≠ c) : Lies B ((w.setCell ⟨c, i, none⟩ u).setCell ⟨c, j, none⟩ v) A F n := by
  rcases h with h | ⟨h0, g, hg, e, hr⟩
  · exact .inl h
  · exact .inr ⟨h0, g, hg, e, hr.far (hA _ e)⟩
theorem Lies.lt {B : Nat} {w : World} {A : Option Addr} {F : Nat → Int} {n : Nat} (h : Lies B w A F n) : ∀ a, A = some a → a.block < w.heap.size := fun a e => by
  rcases h with ⟨_, h⟩ | ⟨_, g, _, h, hr⟩
  · rw [h] at e; cases e
  · rw [h] at e; cases e; exact lt_of_get hr
theorem cut_tail (g n N : Nat) (h : n < N) (w' : World) : (Instr.slice 25 (.slice (some ⟨g, 0, none⟩) N N) (some (.int .i64 (n : Int))) none none).run Tryz.prog w' = .ok (.slice (some ⟨g, n * 2, none⟩) (N - n) (N - n)) w' := by
  rw [run_slice_l w' 25 (some ⟨g, 0, none⟩) N N (by kernel_rfl) .i64 (n : Int) (by omega) (by omega), show (Tryz.prog).elem 25 = 28 by kernel_rfl, Tryz.sizeOf28]
  have e2 : ¬ N = n := by omega
  simp [Result.andThen, sliced, e2, Addr.add]
  try omega
/-- What a proof has of its own. -/
def ownP (n P G : Nat) (R : Nat → Nat) (b13 b12 b11 : Nat) (gA : Option Addr) (b : Nat) : Prop := ownW P G n R b ∨ b = b13 ∨ b = b12 ∨ b = b11 ∨ ∃ o, gA = some ⟨b, o, none⟩
theorem Reg7.low {x : Ci} {w : World} {b11 b12 : Nat} {ga : Int} {gA : Option Addr} {gn gc : Nat} {gm : Int} {sd : List Int} {n D b13 P G : Nat} {R : Nat → Nat} {w' : World} (h : Reg7 x w b11 b12 ga gA gn gc gm sd n D b13 P G R w') {b : Nat} (hb : ownP n P G R b13 b12 b11 gA b) : w.heap.size ≤ b := by
  rcases hb with e | rfl | rfl | rfl | ⟨o, e⟩
  · exact h.lw _ e
  · exact h.l13
  · exact h.r4.l12
  · exact h.r4.l11
  · exact h.r4.lg _ _ e
theorem Reg7.st {x : Ci} {w : World} {b11 b12 : Nat} {ga : Int} {gA : Option Addr} {gn gc : Nat} {gm : Int} {sd : List Int} {n D b13 P G : Nat} {R : Nat → Nat} {w' : World} (h : Reg7 x w b11 b12 ga gA gn gc gm sd n D b13 P G R w') (hn : x.arityN = n) : PrSt x sd P G D R b13 b12 b11 ga gA gn gc gm [] (ownP n P G R b13 b12 b11 gA) w' := by
  subst hn
  exact ⟨rfl, h.wp.congr (fun i t _ _ => wvF_nil x.f sd i t), h.k13, h.r4.k12, h.r4.k11, h.r4.gad, h.gn'⟩
/-- All that is a proof's own is new: what there was lasts. -/
theorem own_below {w w1 w2 : World} {own own' : Nat → Prop} (hb : Below w.heap.size w w1) (hm : Moved own own' w1 w2) (hl : ∀ b, own b → w.heap.size ≤ b) : Below w.heap.size w w2 :=
  ⟨hm.os.trans hb.os, hm.tape.trans hb.tape, hm.output.trans hb.output, Nat.le_trans hb.size hm.size, fun k hk => (hm.keep k (Nat.lt_of_lt_of_le hk hb.size) (fun e => by have := hl k e; omega)).1.trans (hb.block k hk)⟩
set_option maxRecDepth 20000 in
set_option maxHeartbeats 16000000 in
theorem prove_any (x : Ci) (h : x.Good) (ha : x.arityN ≤ 100) (kk D : Nat) (hkk : kk ≤ 10) (hD : D = 2 ^ kk) (hDp : D = pow2 (x.callsN + 1)) (hD40 : D ≤ 40) (hcD : x.callsN < D) (xs sd js : List Int) (Ax Bs Bj : Option Addr) (N cp n cs J cj : Nat) (hl : xs.length = N) (hN : N = x.inN) (hcp : N ≤ cp) (hn : x.arityN = n) (hsl : sd.length = n) (hJ : J = x.jointN) (hjl : js.length = J)
    (hx : InF x.f xs) (hs : ElemsOK sd) (hj : ElemsOK js) (w : World) (hT : Tabs w) (hA : ElemsAt w Ax xs) (hS : ElemsAt w Bs sd) (hB : ElemsAt w Bj js) (lA : ∀ a, Ax = some a → a.block < w.heap.size) (lS : ∀ a, Bs = some a → a.block < w.heap.size) (lB : ∀ a, Bj = some a → a.block < w.heap.size) :
    Calls Tryz.prog 18 #[cvl x, .slice Ax N cp, .slice Bs n cs, .slice Bj J cj] w (ProveOut x sd (asksL x xs js 1) kk D w) := by
  have hD1 : 1 ≤ D := by rw [hD]; exact two_pos kk
  have hCk := Lib.hid (fun w => check_good h w)
  have hG := Lib.hid (fun w => gadget_new x h w)
  have hAr := Lib.hid (fun v (w : World) (hv : GadIs x v w) => garity_any x h hv)
  have hDo := Lib.hid (domain_any x h)
  have hPf := Lib.hid (proof_any x h)
  have hNw := Lib.hid (fun w hA => newWires_any h.f sd Bs n cs D hsl (by omega) (by omega) hD1 hs w hA)
  have hRn := Lib.hid (fun P G R pw pg pf a A ln lc m own w hs hA hno hB hnb => prove_run x h ha xs js Ax Bj N cp J cj hl hN hcp hJ hjl hx.ok hj sd P G D (by omega) hcD R pw pg pf a A ln lc m own w hs hA hno hB hnb)
  have hWp := Lib.hid (fun a A ln lc m P G R V k (hV : ∀ i, i < x.arityN → ∀ t, t < D → 0 ≤ V i t ∧ V i t < M x.f) w hT hw hg => wpoly_any x h a A ln lc m kk D hkk hD hD40 P G R V k hV ha w hT hw hg)
  have hVi := Lib.hid (fun i t => wvF_in x h sd hx js 1 i t)
  have hsm := Lib.hid (fun (z : Int) (hz : 0 ≤ z ∧ z < 340282366920938463463374607431768211456) B w (hB : ElemsAt w B [z]) => fsum_gen x.f (add x.f) [z] B 1 (fun y hy => by rw [List.mem_singleton.1 hy]; exact hz) (by unfold maxLen; simp) (fb_of h.f).hadd w hB)
  have hsf : ∀ z, List.foldl (add x.f) 0 [z] = add x.f 0 z := fun z => rfl
  simp only [hsf] at hsm
  unfold GadNew at hG
  unfold WiresNew at hNw
  unfold AskOut at hRn
  unfold WpolyOut MOut at hWp
  unfold NumBy at hDo hPf
  unfold ProveOut
  rw [← hDp] at hDo
  unfold cvl at *
  rw [hn] at hWp ha ⊢
  replace hA := Lib.hid hA
  replace hS := Lib.hid hS
  replace hB := Lib.hid hB
  replace hT := Lib.hid hT
  replace lA := Lib.hid lA
  replace lS := Lib.hid lS
  replace lB := Lib.hid lB
  replace hsl := Lib.hid hsl
  replace hs := Lib.hid hs
  replace hn := Lib.hid hn
  have hDq := Lib.hid hDp
  replace hcD := Lib.hid hcD
  clear hl hN hcp hJ hjl hx hj hD hDp hsf
  obtain ⟨pN, hpNe⟩ : ∃ pN, x.proofN = pN := ⟨_, rfl⟩
  rw [hpNe] at hPf ⊢
  obtain ⟨qs, hqs⟩ : ∃ qs, asksL x xs js 1 = qs := ⟨_, rfl⟩
  rw [hqs] at hRn hVi ⊢
  replace hpNe := Lib.hid hpNe
  clear hqs
  go_enter Tryz.func18, Tryz.ntmps18
  go_upto_region 1 with (fail)
  refine name_wp (fun w1 => Below w.heap.size w w1 ∧ w1.heap[w.heap.size]? = some (cobj x)) ⟨(Below.refl _ _).alloc (Nat.le_refl _) _, alloc_at rfl⟩ ?_
  rintro w1 ⟨hb, kc⟩
  obtain ⟨c0, c1, c2, c3, c4, c5⟩ := blk6z kc
  go_wp2_with fail
  refine call_then (hCk.out _) ?_
  intro w2 hv
  replace hb := below_next hb hb.size hv
  replace kc := keeps hv kc
  clear hv c0 c1 c2 c3 c4 c5
  go_upto_region 4 with (fail)
  go_cut [11, 12] (fun p q w' => ∃ b11 b12 ga gA gn gc gm, p = .pointer (some ⟨b11, 0, none⟩) ∧ q = .pointer (some ⟨b12, 0, none⟩) ∧ Reg4 x w b11 b12 ga gA gn gc gm w')
  case first =>
    refine segS_start (gb := fun _ => True) 6 (by kernel_rfl) (by decide) ?_
    intro v0 hv
    replace hb := below_next hb hb.size hv
    replace kc := keeps hv kc
    clear hv
    refine segS_batch 3 [0, 1, 2] (by kernel_rfl) rfl (by kernel_rfl) (by kernel_rfl) (by kernel_rfl) ?_
    apply Exists.intro
    refine ⟨fun ι _ φ hφ => ?_, fun v1 hv => ?_⟩
    · have qd := fun i => blk6z ((hφ.old i).keeps kc trivial)
      have q0 := fun i => (qd i).1
      have q1 := fun i => (qd i).2.1
      have q2 := fun i => (qd i).2.2.1
      have q3 := fun i => (qd i).2.2.2.1
      have q4 := fun i => (qd i).2.2.2.2.1
      have q5 := fun i => (qd i).2.2.2.2.2
      clear qd
      repeat (refine pick_step rfl ?_; go_big_quiet_step (fail))
      exact pick_end
    replace hb := below_next hb hb.size hv
    replace kc := keeps hv kc
    clear hv
    refine segS_more [3, 4, 5] (by kernel_rfl) (by decide) ?_
    intro y hy
    simp only [List.mem_cons, List.not_mem_nil, or_false] at hy
    rcases hy with rfl | rfl | rfl
    · refine ⟨by decide, _, rfl, fun v2 K hv hK => ?_⟩
      replace hb := below_next hb hb.size hv
      replace kc := keeps hv kc
      clear hv
      replace hK := Lib.hid hK
      go_simp
      refine (hG.out v2).mono ?_
      rintro e v2' ⟨ga, gA, gn, gc, gm, rfl, hv, hgd, hgr⟩
      have hgr : ∀ b o, gA = some ⟨b, o, none⟩ → w.heap.size ≤ b := fun b o e => Nat.le_trans hb.size (hgr b o e)
      refine hK.out _ _ (HeldS.of_below hv) ?_
      clear hK K
      replace hb := below_next hb hb.size hv
      replace kc := keeps hv kc
      clear hv
      refine segS_more [4, 5] (by kernel_rfl) (by decide) ?_
      intro y hy
      simp only [List.mem_cons, List.not_mem_nil, or_false] at hy
      rcases hy with rfl | rfl
      · refine ⟨by decide, _, rfl, fun v3 K hv hK => ?_⟩
        replace hb := below_next hb hb.size hv
        replace kc := keeps hv kc
        replace hgd := hgd.up hv
        clear hv
        replace hK := Lib.hid hK
        go_simp
        refine hK.out _ _ (HeldS.of_below ((Below.refl _ _).alloc (Nat.le_refl _) _)) ?_
        clear hK K
        have hv : Below v3.heap.size v3 (v3.alloc (.cells #[.int .u8 0] 31 (0, 0))) := (Below.refl _ _).alloc (Nat.le_refl _) _
        have k11 : (v3.alloc (.cells #[.int .u8 0] 31 (0, 0))).heap[v3.heap.size]? = some (.cells #[.int .u8 0] 31 (0, 0)) := alloc_at rfl
        have l11 := hb.size
        replace hb := below_next hb hb.size hv
        replace kc := keeps hv kc
        replace hgd := hgd.up hv
        clear hv
        generalize (v3.alloc (.cells #[.int .u8 0] 31 (0, 0))) = v3' at *
        generalize v3.heap.size = b11 at *
        refine segS_more [5] (by kernel_rfl) (by decide) ?_
        intro y hy
        obtain rfl := List.mem_singleton.1 hy
        refine ⟨by decide, _, rfl, fun v4 K hv hK => ?_⟩
        replace hb := below_next hb hb.size hv
        replace kc := keeps hv kc
        replace k11 := keeps hv k11
        replace hgd := hgd.up hv
        clear hv
        replace hK := Lib.hid hK
        go_simp
        refine hK.out _ _ (HeldS.of_below ((Below.refl _ _).alloc (Nat.le_refl _) _)) ?_
        clear hK K
        have hv : Below v4.heap.size v4 (v4.alloc (.cells #[.int .u8 0, .slice none 0 0, .int .i64 0] 43 (0, 0))) := (Below.refl _ _).alloc (Nat.le_refl _) _
        have k12 : (v4.alloc (.cells #[.int .u8 0, .slice none 0 0, .int .i64 0] 43 (0, 0))).heap[v4.heap.size]? = some (.cells #[.int .u8 0, .slice none 0 0, .int .i64 0] 43 (0, 0)) := alloc_at rfl
        have l12 := hb.size
        replace hb := below_next hb hb.size hv
        replace kc := keeps hv kc
        replace k11 := keeps hv k11
        replace hgd := hgd.up hv
        clear hv
        generalize (v4.alloc (.cells #[.int .u8 0, .slice none 0 0, .int .i64 0] 43 (0, 0))) = v4' at *
        generalize v4.heap.size = b12 at *
        refine segS_tail (by kernel_rfl) ?_
        intro v9 hv
        replace hb := below_next hb hb.size hv
        replace kc := keeps hv kc
        replace k11 := keeps hv k11
        replace k12 := keeps hv k12
        replace hgd := hgd.up hv
        clear hv
        simp only [List.drop_succ_cons, List.drop_zero]
        have hk1 : v9.cell? ⟨b11, 0, none⟩ = some (.int .u8 0) ∧ v9.frozen? ⟨b11, 0, none⟩ = false := by simp [World.cell?, World.frozen?, k11]
        obtain ⟨t0, t1⟩ := hk1
        have n12 : b12 ≠ b11 := cells_ne k12 k11 (by decide)
        obtain ⟨d0, d1, d2, f0, f1, f2⟩ := blk3 k12
        have ncq : w.heap.size ≠ b11 := cells_ne (show v9.heap[w.heap.size]? = some (.cells (ccells x).toArray 33 (0, 0)) from kc) k11 (by decide)
        have ncr : w.heap.size ≠ b12 := cells_ne (show v9.heap[w.heap.size]? = some (.cells (ccells x).toArray 33 (0, 0)) from kc) k12 (by decide)
        have k11' : (v9.setCell ⟨b11, 0, none⟩ (.int .u8 x.f)).heap[b11]? = some (.cells #[.int .u8 x.f] 31 (0, 0)) := (store1 k11 (o := 0) (v := .int .u8 x.f)).trans rfl
        have k12' : (v9.setCell ⟨b11, 0, none⟩ (.int .u8 x.f)).heap[b12]? = some (.cells #[.int .u8 0, .slice none 0 0, .int .i64 0] 43 (0, 0)) := store_far k12 n12
        have e12 := (store1 (store1 (store1 k12' (o := 0) (v := .int .u8 ga)) (o := 1) (v := .slice gA gn gc)) (o := 2) (v := .int .i64 gm)).trans rfl
        have e11 : ((((v9.setCell ⟨b11, 0, none⟩ (.int .u8 x.f)).setCell ⟨b12, 0, none⟩ (.int .u8 ga)).setCell ⟨b12, 1, none⟩ (.slice gA gn gc)).setCell ⟨b12, 2, none⟩ (.int .i64 gm)).heap[b11]? = some (.cells #[.int .u8 x.f] 31 (0, 0)) := store_far (store_far (store_far k11' n12.symm) n12.symm) n12.symm
        have ec : ((((v9.setCell ⟨b11, 0, none⟩ (.int .u8 x.f)).setCell ⟨b12, 0, none⟩ (.int .u8 ga)).setCell ⟨b12, 1, none⟩ (.slice gA gn gc)).setCell ⟨b12, 2, none⟩ (.int .i64 gm)).heap[w.heap.size]? = some (cobj x) := store_far (store_far (store_far (store_far kc ncq) ncr) ncr) ncr
        have eb := (((hb.setCell (p := ⟨b11, 0, none⟩) l11 (.int .u8 x.f)).setCell (p := ⟨b12, 0, none⟩) l12 (.int .u8 ga)).setCell (p := ⟨b12, 1, none⟩) l12 (.slice gA gn gc)).setCell (p := ⟨b12, 2, none⟩) l12 (.int .i64 gm)
        have eg : GadIs x (.agg #[.int .u8 ga, .slice gA gn gc, .int .i64 gm]) ((((v9.setCell ⟨b11, 0, none⟩ (.int .u8 x.f)).setCell ⟨b12, 0, none⟩ (.int .u8 ga)).setCell ⟨b12, 1, none⟩ (.slice gA gn gc)).setCell ⟨b12, 2, none⟩ (.int .i64 gm)) := hgd.same (fun b o e => by
          have hr := hgd.row e
          have q1 : b ≠ b11 := cells_ne hr k11 (by decide)
          have q2 : b ≠ b12 := cells_ne hr k12 (by decide)
          exact (store_far (store_far (store_far (store_far hr q1) q2) q2) q2).trans hr.symm)
        have hres : Reg4 x w b11 b12 ga gA gn gc gm ((((v9.setCell ⟨b11, 0, none⟩ (.int .u8 x.f)).setCell ⟨b12, 0, none⟩ (.int .u8 ga)).setCell ⟨b12, 1, none⟩ (.slice gA gn gc)).setCell ⟨b12, 2, none⟩ (.int .i64 gm)) := ⟨eb, ec, e11, e12, eg, l11, l12, hgr⟩
        replace hres := Lib.hid hres
        have n12s := n12.symm
        clear eb ec e11 e12 eg k11' k12' k11 k12 kc hb hgd ncq ncr
        go_wp2
        refine calm_normal ?_
        go_wp2
        go_meet
        exact ⟨b11, b12, ga, gA, gn, gc, gm, rfl, rfl, hres.out⟩
      · refine ⟨by decide, _, rfl, fun v3 K hv hK => ?_⟩
        replace hb := below_next hb hb.size hv
        replace kc := keeps hv kc
        replace hgd := hgd.up hv
        clear hv
        replace hK := Lib.hid hK
        go_simp
        refine hK.out _ _ (HeldS.of_below ((Below.refl _ _).alloc (Nat.le_refl _) _)) ?_
        clear hK K
        have hv : Below v3.heap.size v3 (v3.alloc (.cells #[.int .u8 0, .slice none 0 0, .int .i64 0] 43 (0, 0))) := (Below.refl _ _).alloc (Nat.le_refl _) _
        have k12 : (v3.alloc (.cells #[.int .u8 0, .slice none 0 0, .int .i64 0] 43 (0, 0))).heap[v3.heap.size]? = some (.cells #[.int .u8 0, .slice none 0 0, .int .i64 0] 43 (0, 0)) := alloc_at rfl
        have l12 := hb.size
        replace hb := below_next hb hb.size hv
        replace kc := keeps hv kc
        replace hgd := hgd.up hv
        clear hv
        generalize (v3.alloc (.cells #[.int .u8 0, .slice none 0 0, .int .i64 0] 43 (0, 0))) = v3' at *
        generalize v3.heap.size = b12 at *
        refine segS_more [4] (by kernel_rfl) (by decide) ?_
        intro y hy
        obtain rfl := List.mem_singleton.1 hy
        refine ⟨by decide, _, rfl, fun v4 K hv hK => ?_⟩
        replace hb := below_next hb hb.size hv
        replace kc := keeps hv kc
        replace k12 := keeps hv k12
        replace hgd := hgd.up hv
        clear hv
        replace hK := Lib.hid hK
        go_simp
        refine hK.out _ _ (HeldS.of_below ((Below.refl _ _).alloc (Nat.le_refl _) _)) ?_
        clear hK K
        have hv : Below v4.heap.size v4 (v4.alloc (.cells #[.int .u8 0] 31 (0, 0))) := (Below.refl _ _).alloc (Nat.le_refl _) _
        have k11 : (v4.alloc (.cells #[.int .u8 0] 31 (0, 0))).heap[v4.heap.size]? = some (.cells #[.int .u8 0] 31 (0, 0)) := alloc_at rfl
        have l11 := hb.size
        replace hb := below_next hb hb.size hv
        replace kc := keeps hv kc
        replace k12 := keeps hv k12
        replace hgd := hgd.up hv
        clear hv
        generalize (v4.alloc (.cells #[.int .u8 0] 31 (0, 0))) = v4' at *
        generalize v4.heap.size = b11 at *
        refine segS_tail (by kernel_rfl) ?_
        intro v9 hv
        replace hb := below_next hb hb.size hv
        replace kc := keeps hv kc
        replace k11 := keeps hv k11
        replace k12 := keeps hv k12
        replace hgd := hgd.up hv
        clear hv
        simp only [List.drop_succ_cons, List.drop_zero]
        have hk1 : v9.cell? ⟨b11, 0, none⟩ = some (.int .u8 0) ∧ v9.frozen? ⟨b11, 0, none⟩ = false := by simp [World.cell?, World.frozen?, k11]
        obtain ⟨t0, t1⟩ := hk1
        have n12 : b12 ≠ b11 := cells_ne k12 k11 (by decide)
        obtain ⟨d0, d1, d2, f0, f1, f2⟩ := blk3 k12
        have ncq : w.heap.size ≠ b11 := cells_ne (show v9.heap[w.heap.size]? = some (.cells (ccells x).toArray 33 (0, 0)) from kc) k11 (by decide)
        have ncr : w.heap.size ≠ b12 := cells_ne (show v9.heap[w.heap.size]? = some (.cells (ccells x).toArray 33 (0, 0)) from kc) k12 (by decide)
        have k11' : (v9.setCell ⟨b11, 0, none⟩ (.int .u8 x.f)).heap[b11]? = some (.cells #[.int .u8 x.f] 31 (0, 0)) := (store1 k11 (o := 0) (v := .int .u8 x.f)).trans rfl
        have k12' : (v9.setCell ⟨b11, 0, none⟩ (.int .u8 x.f)).heap[b12]? = some (.cells #[.int .u8 0, .slice none 0 0, .int .i64 0] 43 (0, 0)) := store_far k12 n12
        have e12 := (store1 (store1 (store1 k12' (o := 0) (v := .int .u8 ga)) (o := 1) (v := .slice gA gn gc)) (o := 2) (v := .int .i64 gm)).trans rfl
        have e11 : ((((v9.setCell ⟨b11, 0, none⟩ (.int .u8 x.f)).setCell ⟨b12, 0, none⟩ (.int .u8 ga)).setCell ⟨b12, 1, none⟩ (.slice gA gn gc)).setCell ⟨b12, 2, none⟩ (.int .i64 gm)).heap[b11]? = some (.cells #[.int .u8 x.f] 31 (0, 0)) := store_far (store_far (store_far k11' n12.symm) n12.symm) n12.symm
        have ec : ((((v9.setCell ⟨b11, 0, none⟩ (.int .u8 x.f)).setCell ⟨b12, 0, none⟩ (.int .u8 ga)).setCell ⟨b12, 1, none⟩ (.slice gA gn gc)).setCell ⟨b12, 2, none⟩ (.int .i64 gm)).heap[w.heap.size]? = some (cobj x) := store_far (store_far (store_far (store_far kc ncq) ncr) ncr) ncr
        have eb := (((hb.setCell (p := ⟨b11, 0, none⟩) l11 (.int .u8 x.f)).setCell (p := ⟨b12, 0, none⟩) l12 (.int .u8 ga)).setCell (p := ⟨b12, 1, none⟩) l12 (.slice gA gn gc)).setCell (p := ⟨b12, 2, none⟩) l12 (.int .i64 gm)
        have eg : GadIs x (.agg #[.int .u8 ga, .slice gA gn gc, .int .i64 gm]) ((((v9.setCell ⟨b11, 0, none⟩ (.int .u8 x.f)).setCell ⟨b12, 0, none⟩ (.int .u8 ga)).setCell ⟨b12, 1, none⟩ (.slice gA gn gc)).setCell ⟨b12, 2, none⟩ (.int .i64 gm)) := hgd.same (fun b o e => by
          have hr := hgd.row e
          have q1 : b ≠ b11 := cells_ne hr k11 (by decide)
          have q2 : b ≠ b12 := cells_ne hr k12 (by decide)
          exact (store_far (store_far (store_far (store_far hr q1) q2) q2) q2).trans hr.symm)
        have hres : Reg4 x w b11 b12 ga gA gn gc gm ((((v9.setCell ⟨b11, 0, none⟩ (.int .u8 x.f)).setCell ⟨b12, 0, none⟩ (.int .u8 ga)).setCell ⟨b12, 1, none⟩ (.slice gA gn gc)).setCell ⟨b12, 2, none⟩ (.int .i64 gm)) := ⟨eb, ec, e11, e12, eg, l11, l12, hgr⟩
        replace hres := Lib.hid hres
        have n12s := n12.symm
        clear eb ec e11 e12 eg k11' k12' k11 k12 kc hb hgd ncq ncr
        go_wp2
        refine calm_normal ?_
        go_wp2
        go_meet
        exact ⟨b11, b12, ga, gA, gn, gc, gm, rfl, rfl, hres.out⟩
    · refine ⟨by decide, _, rfl, fun v2 K hv hK => ?_⟩
      replace hb := below_next hb hb.size hv
      replace kc := keeps hv kc
      clear hv
      replace hK := Lib.hid hK
      go_simp
      refine hK.out _ _ (HeldS.of_below ((Below.refl _ _).alloc (Nat.le_refl _) _)) ?_
      clear hK K
      have hv : Below v2.heap.size v2 (v2.alloc (.cells #[.int .u8 0] 31 (0, 0))) := (Below.refl _ _).alloc (Nat.le_refl _) _
      have k11 : (v2.alloc (.cells #[.int .u8 0] 31 (0, 0))).heap[v2.heap.size]? = some (.cells #[.int .u8 0] 31 (0, 0)) := alloc_at rfl
      have l11 := hb.size
      replace hb := below_next hb hb.size hv
      replace kc := keeps hv kc
      clear hv
      generalize (v2.alloc (.cells #[.int .u8 0] 31 (0, 0))) = v2' at *
      generalize v2.heap.size = b11 at *
      refine segS_more [3, 5] (by kernel_rfl) (by decide) ?_
      intro y hy
      simp only [List.mem_cons, List.not_mem_nil, or_false] at hy
      rcases hy with rfl | rfl
      · refine ⟨by decide, _, rfl, fun v3 K hv hK => ?_⟩
        replace hb := below_next hb hb.size hv
        replace kc := keeps hv kc
        replace k11 := keeps hv k11
        clear hv
        replace hK := Lib.hid hK
        go_simp
        refine (hG.out v3).mono ?_
        rintro e v3' ⟨ga, gA, gn, gc, gm, rfl, hv, hgd, hgr⟩
        have hgr : ∀ b o, gA = some ⟨b, o, none⟩ → w.heap.size ≤ b := fun b o e => Nat.le_trans hb.size (hgr b o e)
        refine hK.out _ _ (HeldS.of_below hv) ?_
        clear hK K
        replace hb := below_next hb hb.size hv
        replace kc := keeps hv kc
        replace k11 := keeps hv k11
        clear hv
        refine segS_more [5] (by kernel_rfl) (by decide) ?_
        intro y hy
        obtain rfl := List.mem_singleton.1 hy
        refine ⟨by decide, _, rfl, fun v4 K hv hK => ?_⟩
        replace hb := below_next hb hb.size hv
        replace kc := keeps hv kc
        replace k11 := keeps hv k11
        replace hgd := hgd.up hv
        clear hv
        replace hK := Lib.hid hK
        go_simp
        refine hK.out _ _ (HeldS.of_below ((Below.refl _ _).alloc (Nat.le_refl _) _)) ?_
        clear hK K
        have hv : Below v4.heap.size v4 (v4.alloc (.cells #[.int .u8 0, .slice none 0 0, .int .i64 0] 43 (0, 0))) := (Below.refl _ _).alloc (Nat.le_refl _) _
        have k12 : (v4.alloc (.cells #[.int .u8 0, .slice none 0 0, .int .i64 0] 43 (0, 0))).heap[v4.heap.size]? = some (.cells #[.int .u8 0, .slice none 0 0, .int .i64 0] 43 (0, 0)) := alloc_at rfl
        have l12 := hb.size
        replace hb := below_next hb hb.size hv
        replace kc := keeps hv kc
        replace k11 := keeps hv k11
        replace hgd := hgd.up hv
        clear hv
        generalize (v4.alloc (.cells #[.int .u8 0, .slice none 0 0, .int .i64 0] 43 (0, 0))) = v4' at *
        generalize v4.heap.size = b12 at *
        refine segS_tail (by kernel_rfl) ?_
        intro v9 hv
        replace hb := below_next hb hb.size hv
        replace kc := keeps hv kc
        replace k11 := keeps hv k11
        replace k12 := keeps hv k12
        replace hgd := hgd.up hv
        clear hv
        simp only [List.drop_succ_cons, List.drop_zero]
        have hk1 : v9.cell? ⟨b11, 0, none⟩ = some (.int .u8 0) ∧ v9.frozen? ⟨b11, 0, none⟩ = false := by simp [World.cell?, World.frozen?, k11]
        obtain ⟨t0, t1⟩ := hk1
        have n12 : b12 ≠ b11 := cells_ne k12 k11 (by decide)
        obtain ⟨d0, d1, d2, f0, f1, f2⟩ := blk3 k12
        have ncq : w.heap.size ≠ b11 := cells_ne (show v9.heap[w.heap.size]? = some (.cells (ccells x).toArray 33 (0, 0)) from kc) k11 (by decide)
        have ncr : w.heap.size ≠ b12 := cells_ne (show v9.heap[w.heap.size]? = some (.cells (ccells x).toArray 33 (0, 0)) from kc) k12 (by decide)
        have k11' : (v9.setCell ⟨b11, 0, none⟩ (.int .u8 x.f)).heap[b11]? = some (.cells #[.int .u8 x.f] 31 (0, 0)) := (store1 k11 (o := 0) (v := .int .u8 x.f)).trans rfl
        have k12' : (v9.setCell ⟨b11, 0, none⟩ (.int .u8 x.f)).heap[b12]? = some (.cells #[.int .u8 0, .slice none 0 0, .int .i64 0] 43 (0, 0)) := store_far k12 n12
        have e12 := (store1 (store1 (store1 k12' (o := 0) (v := .int .u8 ga)) (o := 1) (v := .slice gA gn gc)) (o := 2) (v := .int .i64 gm)).trans rfl
        have e11 : ((((v9.setCell ⟨b11, 0, none⟩ (.int .u8 x.f)).setCell ⟨b12, 0, none⟩ (.int .u8 ga)).setCell ⟨b12, 1, none⟩ (.slice gA gn gc)).setCell ⟨b12, 2, none⟩ (.int .i64 gm)).heap[b11]? = some (.cells #[.int .u8 x.f] 31 (0, 0)) := store_far (store_far (store_far k11' n12.symm) n12.symm) n12.symm
        have ec : ((((v9.setCell ⟨b11, 0, none⟩ (.int .u8 x.f)).setCell ⟨b12, 0, none⟩ (.int .u8 ga)).setCell ⟨b12, 1, none⟩ (.slice gA gn gc)).setCell ⟨b12, 2, none⟩ (.int .i64 gm)).heap[w.heap.size]? = some (cobj x) := store_far (store_far (store_far (store_far kc ncq) ncr) ncr) ncr
        have eb := (((hb.setCell (p := ⟨b11, 0, none⟩) l11 (.int .u8 x.f)).setCell (p := ⟨b12, 0, none⟩) l12 (.int .u8 ga)).setCell (p := ⟨b12, 1, none⟩) l12 (.slice gA gn gc)).setCell (p := ⟨b12, 2, none⟩) l12 (.int .i64 gm)
        have eg : GadIs x (.agg #[.int .u8 ga, .slice gA gn gc, .int .i64 gm]) ((((v9.setCell ⟨b11, 0, none⟩ (.int .u8 x.f)).setCell ⟨b12, 0, none⟩ (.int .u8 ga)).setCell ⟨b12, 1, none⟩ (.slice gA gn gc)).setCell ⟨b12, 2, none⟩ (.int .i64 gm)) := hgd.same (fun b o e => by
          have hr := hgd.row e
          have q1 : b ≠ b11 := cells_ne hr k11 (by decide)
          have q2 : b ≠ b12 := cells_ne hr k12 (by decide)
          exact (store_far (store_far (store_far (store_far hr q1) q2) q2) q2).trans hr.symm)
        have hres : Reg4 x w b11 b12 ga gA gn gc gm ((((v9.setCell ⟨b11, 0, none⟩ (.int .u8 x.f)).setCell ⟨b12, 0, none⟩ (.int .u8 ga)).setCell ⟨b12, 1, none⟩ (.slice gA gn gc)).setCell ⟨b12, 2, none⟩ (.int .i64 gm)) := ⟨eb, ec, e11, e12, eg, l11, l12, hgr⟩
        replace hres := Lib.hid hres
        have n12s := n12.symm
        clear eb ec e11 e12 eg k11' k12' k11 k12 kc hb hgd ncq ncr
        go_wp2
        refine calm_normal ?_
        go_wp2
        go_meet
        exact ⟨b11, b12, ga, gA, gn, gc, gm, rfl, rfl, hres.out⟩
      · refine ⟨by decide, _, rfl, fun v3 K hv hK => ?_⟩
        replace hb := below_next hb hb.size hv
        replace kc := keeps hv kc
        replace k11 := keeps hv k11
        clear hv
        replace hK := Lib.hid hK
        go_simp
        refine hK.out _ _ (HeldS.of_below ((Below.refl _ _).alloc (Nat.le_refl _) _)) ?_
        clear hK K
        have hv : Below v3.heap.size v3 (v3.alloc (.cells #[.int .u8 0, .slice none 0 0, .int .i64 0] 43 (0, 0))) := (Below.refl _ _).alloc (Nat.le_refl _) _
        have k12 : (v3.alloc (.cells #[.int .u8 0, .slice none 0 0, .int .i64 0] 43 (0, 0))).heap[v3.heap.size]? = some (.cells #[.int .u8 0, .slice none 0 0, .int .i64 0] 43 (0, 0)) := alloc_at rfl
        have l12 := hb.size
        replace hb := below_next hb hb.size hv
        replace kc := keeps hv kc
        replace k11 := keeps hv k11
        clear hv
        generalize (v3.alloc (.cells #[.int .u8 0, .slice none 0 0, .int .i64 0] 43 (0, 0))) = v3' at *
        generalize v3.heap.size = b12 at *
        refine segS_more [3] (by kernel_rfl) (by decide) ?_
        intro y hy
        obtain rfl := List.mem_singleton.1 hy
        refine ⟨by decide, _, rfl, fun v4 K hv hK => ?_⟩
        replace hb := below_next hb hb.size hv
        replace kc := keeps hv kc
        replace k11 := keeps hv k11
        replace k12 := keeps hv k12
        clear hv
        replace hK := Lib.hid hK
        go_simp
        refine (hG.out v4).mono ?_
        rintro e v4' ⟨ga, gA, gn, gc, gm, rfl, hv, hgd, hgr⟩
        have hgr : ∀ b o, gA = some ⟨b, o, none⟩ → w.heap.size ≤ b := fun b o e => Nat.le_trans hb.size (hgr b o e)
        refine hK.out _ _ (HeldS.of_below hv) ?_
        clear hK K
        replace hb := below_next hb hb.size hv
        replace kc := keeps hv kc
        replace k11 := keeps hv k11
        replace k12 := keeps hv k12
        clear hv
        refine segS_tail (by kernel_rfl) ?_
        intro v9 hv
        replace hb := below_next hb hb.size hv
        replace kc := keeps hv kc
        replace k11 := keeps hv k11
        replace k12 := keeps hv k12
        replace hgd := hgd.up hv
        clear hv
        simp only [List.drop_succ_cons, List.drop_zero]
        have hk1 : v9.cell? ⟨b11, 0, none⟩ = some (.int .u8 0) ∧ v9.frozen? ⟨b11, 0, none⟩ = false := by simp [World.cell?, World.frozen?, k11]
        obtain ⟨t0, t1⟩ := hk1
        have n12 : b12 ≠ b11 := cells_ne k12 k11 (by decide)
        obtain ⟨d0, d1, d2, f0, f1, f2⟩ := blk3 k12
        have ncq : w.heap.size ≠ b11 := cells_ne (show v9.heap[w.heap.size]? = some (.cells (ccells x).toArray 33 (0, 0)) from kc) k11 (by decide)
        have ncr : w.heap.size ≠ b12 := cells_ne (show v9.heap[w.heap.size]? = some (.cells (ccells x).toArray 33 (0, 0)) from kc) k12 (by decide)
        have k11' : (v9.setCell ⟨b11, 0, none⟩ (.int .u8 x.f)).heap[b11]? = some (.cells #[.int .u8 x.f] 31 (0, 0)) := (store1 k11 (o := 0) (v := .int .u8 x.f)).trans rfl
        have k12' : (v9.setCell ⟨b11, 0, none⟩ (.int .u8 x.f)).heap[b12]? = some (.cells #[.int .u8 0, .slice none 0 0, .int .i64 0] 43 (0, 0)) := store_far k12 n12
        have e12 := (store1 (store1 (store1 k12' (o := 0) (v := .int .u8 ga)) (o := 1) (v := .slice gA gn gc)) (o := 2) (v := .int .i64 gm)).trans rfl
        have e11 : ((((v9.setCell ⟨b11, 0, none⟩ (.int .u8 x.f)).setCell ⟨b12, 0, none⟩ (.int .u8 ga)).setCell ⟨b12, 1, none⟩ (.slice gA gn gc)).setCell ⟨b12, 2, none⟩ (.int .i64 gm)).heap[b11]? = some (.cells #[.int .u8 x.f] 31 (0, 0)) := store_far (store_far (store_far k11' n12.symm) n12.symm) n12.symm
        have ec : ((((v9.setCell ⟨b11, 0, none⟩ (.int .u8 x.f)).setCell ⟨b12, 0, none⟩ (.int .u8 ga)).setCell ⟨b12, 1, none⟩ (.slice gA gn gc)).setCell ⟨b12, 2, none⟩ (.int .i64 gm)).heap[w.heap.size]? = some (cobj x) := store_far (store_far (store_far (store_far kc ncq) ncr) ncr) ncr
        have eb := (((hb.setCell (p := ⟨b11, 0, none⟩) l11 (.int .u8 x.f)).setCell (p := ⟨b12, 0, none⟩) l12 (.int .u8 ga)).setCell (p := ⟨b12, 1, none⟩) l12 (.slice gA gn gc)).setCell (p := ⟨b12, 2, none⟩) l12 (.int .i64 gm)
        have eg : GadIs x (.agg #[.int .u8 ga, .slice gA gn gc, .int .i64 gm]) ((((v9.setCell ⟨b11, 0, none⟩ (.int .u8 x.f)).setCell ⟨b12, 0, none⟩ (.int .u8 ga)).setCell ⟨b12, 1, none⟩ (.slice gA gn gc)).setCell ⟨b12, 2, none⟩ (.int .i64 gm)) := hgd.same (fun b o e => by
          have hr := hgd.row e
          have q1 : b ≠ b11 := cells_ne hr k11 (by decide)
          have q2 : b ≠ b12 := cells_ne hr k12 (by decide)
          exact (store_far (store_far (store_far (store_far hr q1) q2) q2) q2).trans hr.symm)
        have hres : Reg4 x w b11 b12 ga gA gn gc gm ((((v9.setCell ⟨b11, 0, none⟩ (.int .u8 x.f)).setCell ⟨b12, 0, none⟩ (.int .u8 ga)).setCell ⟨b12, 1, none⟩ (.slice gA gn gc)).setCell ⟨b12, 2, none⟩ (.int .i64 gm)) := ⟨eb, ec, e11, e12, eg, l11, l12, hgr⟩
        replace hres := Lib.hid hres
        have n12s := n12.symm
        clear eb ec e11 e12 eg k11' k12' k11 k12 kc hb hgd ncq ncr
        go_wp2
        refine calm_normal ?_
        go_wp2
        go_meet
        exact ⟨b11, b12, ga, gA, gn, gc, gm, rfl, rfl, hres.out⟩
    · refine ⟨by decide, _, rfl, fun v2 K hv hK => ?_⟩
      replace hb := below_next hb hb.size hv
      replace kc := keeps hv kc
      clear hv
      replace hK := Lib.hid hK
      go_simp
      refine hK.out _ _ (HeldS.of_below ((Below.refl _ _).alloc (Nat.le_refl _) _)) ?_
      clear hK K
      have hv : Below v2.heap.size v2 (v2.alloc (.cells #[.int .u8 0, .slice none 0 0, .int .i64 0] 43 (0, 0))) := (Below.refl _ _).alloc (Nat.le_refl _) _
      have k12 : (v2.alloc (.cells #[.int .u8 0, .slice none 0 0, .int .i64 0] 43 (0, 0))).heap[v2.heap.size]? = some (.cells #[.int .u8 0, .slice none 0 0, .int .i64 0] 43 (0, 0)) := alloc_at rfl
      have l12 := hb.size
      replace hb := below_next hb hb.size hv
      replace kc := keeps hv kc
      clear hv
      generalize (v2.alloc (.cells #[.int .u8 0, .slice none 0 0, .int .i64 0] 43 (0, 0))) = v2' at *
      generalize v2.heap.size = b12 at *
      refine segS_more [3, 4] (by kernel_rfl) (by decide) ?_
      intro y hy
      simp only [List.mem_cons, List.not_mem_nil, or_false] at hy
      rcases hy with rfl | rfl
      · refine ⟨by decide, _, rfl, fun v3 K hv hK => ?_⟩
        replace hb := below_next hb hb.size hv
        replace kc := keeps hv kc
        replace k12 := keeps hv k12
        clear hv
        replace hK := Lib.hid hK
        go_simp
        refine (hG.out v3).mono ?_
        rintro e v3' ⟨ga, gA, gn, gc, gm, rfl, hv, hgd, hgr⟩
        have hgr : ∀ b o, gA = some ⟨b, o, none⟩ → w.heap.size ≤ b := fun b o e => Nat.le_trans hb.size (hgr b o e)
        refine hK.out _ _ (HeldS.of_below hv) ?_
        clear hK K
        replace hb := below_next hb hb.size hv
        replace kc := keeps hv kc
        replace k12 := keeps hv k12
        clear hv
        refine segS_more [4] (by kernel_rfl) (by decide) ?_
        intro y hy
        obtain rfl := List.mem_singleton.1 hy
        refine ⟨by decide, _, rfl, fun v4 K hv hK => ?_⟩
        replace hb := below_next hb hb.size hv
        replace kc := keeps hv kc
        replace k12 := keeps hv k12
        replace hgd := hgd.up hv
        clear hv
        replace hK := Lib.hid hK
        go_simp
        refine hK.out _ _ (HeldS.of_below ((Below.refl _ _).alloc (Nat.le_refl _) _)) ?_
        clear hK K
        have hv : Below v4.heap.size v4 (v4.alloc (.cells #[.int .u8 0] 31 (0, 0))) := (Below.refl _ _).alloc (Nat.le_refl _) _
        have k11 : (v4.alloc (.cells #[.int .u8 0] 31 (0, 0))).heap[v4.heap.size]? = some (.cells #[.int .u8 0] 31 (0, 0)) := alloc_at rfl
        have l11 := hb.size
        replace hb := below_next hb hb.size hv
        replace kc := keeps hv kc
        replace k12 := keeps hv k12
        replace hgd := hgd.up hv
        clear hv
        generalize (v4.alloc (.cells #[.int .u8 0] 31 (0, 0))) = v4' at *
        generalize v4.heap.size = b11 at *
        refine segS_tail (by kernel_rfl) ?_
        intro v9 hv
        replace hb := below_next hb hb.size hv
        replace kc := keeps hv kc
        replace k11 := keeps hv k11
        replace k12 := keeps hv k12
        replace hgd := hgd.up hv
        clear hv
        simp only [List.drop_succ_cons, List.drop_zero]
        have hk1 : v9.cell? ⟨b11, 0, none⟩ = some (.int .u8 0) ∧ v9.frozen? ⟨b11, 0, none⟩ = false := by simp [World.cell?, World.frozen?, k11]
        obtain ⟨t0, t1⟩ := hk1
        have n12 : b12 ≠ b11 := cells_ne k12 k11 (by decide)
        obtain ⟨d0, d1, d2, f0, f1, f2⟩ := blk3 k12
        have ncq : w.heap.size ≠ b11 := cells_ne (show v9.heap[w.heap.size]? = some (.cells (ccells x).toArray 33 (0, 0)) from kc) k11 (by decide)
        have ncr : w.heap.size ≠ b12 := cells_ne (show v9.heap[w.heap.size]? = some (.cells (ccells x).toArray 33 (0, 0)) from kc) k12 (by decide)
        have k11' : (v9.setCell ⟨b11, 0, none⟩ (.int .u8 x.f)).heap[b11]? = some (.cells #[.int .u8 x.f] 31 (0, 0)) := (store1 k11 (o := 0) (v := .int .u8 x.f)).trans rfl
        have k12' : (v9.setCell ⟨b11, 0, none⟩ (.int .u8 x.f)).heap[b12]? = some (.cells #[.int .u8 0, .slice none 0 0, .int .i64 0] 43 (0, 0)) := store_far k12 n12
        have e12 := (store1 (store1 (store1 k12' (o := 0) (v := .int .u8 ga)) (o := 1) (v := .slice gA gn gc)) (o := 2) (v := .int .i64 gm)).trans rfl
        have e11 : ((((v9.setCell ⟨b11, 0, none⟩ (.int .u8 x.f)).setCell ⟨b12, 0, none⟩ (.int .u8 ga)).setCell ⟨b12, 1, none⟩ (.slice gA gn gc)).setCell ⟨b12, 2, none⟩ (.int .i64 gm)).heap[b11]? = some (.cells #[.int .u8 x.f] 31 (0, 0)) := store_far (store_far (store_far k11' n12.symm) n12.symm) n12.symm
        have ec : ((((v9.setCell ⟨b11, 0, none⟩ (.int .u8 x.f)).setCell ⟨b12, 0, none⟩ (.int .u8 ga)).setCell ⟨b12, 1, none⟩ (.slice gA gn gc)).setCell ⟨b12, 2, none⟩ (.int .i64 gm)).heap[w.heap.size]? = some (cobj x) := store_far (store_far (store_far (store_far kc ncq) ncr) ncr) ncr
        have eb := (((hb.setCell (p := ⟨b11, 0, none⟩) l11 (.int .u8 x.f)).setCell (p := ⟨b12, 0, none⟩) l12 (.int .u8 ga)).setCell (p := ⟨b12, 1, none⟩) l12 (.slice gA gn gc)).setCell (p := ⟨b12, 2, none⟩) l12 (.int .i64 gm)
        have eg : GadIs x (.agg #[.int .u8 ga, .slice gA gn gc, .int .i64 gm]) ((((v9.setCell ⟨b11, 0, none⟩ (.int .u8 x.f)).setCell ⟨b12, 0, none⟩ (.int .u8 ga)).setCell ⟨b12, 1, none⟩ (.slice gA gn gc)).setCell ⟨b12, 2, none⟩ (.int .i64 gm)) := hgd.same (fun b o e => by
          have hr := hgd.row e
          have q1 : b ≠ b11 := cells_ne hr k11 (by decide)
          have q2 : b ≠ b12 := cells_ne hr k12 (by decide)
          exact (store_far (store_far (store_far (store_far hr q1) q2) q2) q2).trans hr.symm)
        have hres : Reg4 x w b11 b12 ga gA gn gc gm ((((v9.setCell ⟨b11, 0, none⟩ (.int .u8 x.f)).setCell ⟨b12, 0, none⟩ (.int .u8 ga)).setCell ⟨b12, 1, none⟩ (.slice gA gn gc)).setCell ⟨b12, 2, none⟩ (.int .i64 gm)) := ⟨eb, ec, e11, e12, eg, l11, l12, hgr⟩
        replace hres := Lib.hid hres
        have n12s := n12.symm
        clear eb ec e11 e12 eg k11' k12' k11 k12 kc hb hgd ncq ncr
        go_wp2
        refine calm_normal ?_
        go_wp2
        go_meet
        exact ⟨b11, b12, ga, gA, gn, gc, gm, rfl, rfl, hres.out⟩
      · refine ⟨by decide, _, rfl, fun v3 K hv hK => ?_⟩
        replace hb := below_next hb hb.size hv
        replace kc := keeps hv kc
        replace k12 := keeps hv k12
        clear hv
        replace hK := Lib.hid hK
        go_simp
        refine hK.out _ _ (HeldS.of_below ((Below.refl _ _).alloc (Nat.le_refl _) _)) ?_
        clear hK K
        have hv : Below v3.heap.size v3 (v3.alloc (.cells #[.int .u8 0] 31 (0, 0))) := (Below.refl _ _).alloc (Nat.le_refl _) _
        have k11 : (v3.alloc (.cells #[.int .u8 0] 31 (0, 0))).heap[v3.heap.size]? = some (.cells #[.int .u8 0] 31 (0, 0)) := alloc_at rfl
        have l11 := hb.size
        replace hb := below_next hb hb.size hv
        replace kc := keeps hv kc
        replace k12 := keeps hv k12
        clear hv
        generalize (v3.alloc (.cells #[.int .u8 0] 31 (0, 0))) = v3' at *
        generalize v3.heap.size = b11 at *
        refine segS_more [3] (by kernel_rfl) (by decide) ?_
        intro y hy
        obtain rfl := List.mem_singleton.1 hy
        refine ⟨by decide, _, rfl, fun v4 K hv hK => ?_⟩
        replace hb := below_next hb hb.size hv
        replace kc := keeps hv kc
        replace k11 := keeps hv k11
        replace k12 := keeps hv k12
        clear hv
        replace hK := Lib.hid hK
        go_simp
        refine (hG.out v4).mono ?_
        rintro e v4' ⟨ga, gA, gn, gc, gm, rfl, hv, hgd, hgr⟩
        have hgr : ∀ b o, gA = some ⟨b, o, none⟩ → w.heap.size ≤ b := fun b o e => Nat.le_trans hb.size (hgr b o e)
        refine hK.out _ _ (HeldS.of_below hv) ?_
        clear hK K
        replace hb := below_next hb hb.size hv
        replace kc := keeps hv kc
        replace k11 := keeps hv k11
        replace k12 := keeps hv k12
        clear hv
        refine segS_tail (by kernel_rfl) ?_
        intro v9 hv
        replace hb := below_next hb hb.size hv
        replace kc := keeps hv kc
        replace k11 := keeps hv k11
        replace k12 := keeps hv k12
        replace hgd := hgd.up hv
        clear hv
        simp only [List.drop_succ_cons, List.drop_zero]
        have hk1 : v9.cell? ⟨b11, 0, none⟩ = some (.int .u8 0) ∧ v9.frozen? ⟨b11, 0, none⟩ = false := by simp [World.cell?, World.frozen?, k11]
        obtain ⟨t0, t1⟩ := hk1
        have n12 : b12 ≠ b11 := cells_ne k12 k11 (by decide)
        obtain ⟨d0, d1, d2, f0, f1, f2⟩ := blk3 k12
        have ncq : w.heap.size ≠ b11 := cells_ne (show v9.heap[w.heap.size]? = some (.cells (ccells x).toArray 33 (0, 0)) from kc) k11 (by decide)
        have ncr : w.heap.size ≠ b12 := cells_ne (show v9.heap[w.heap.size]? = some (.cells (ccells x).toArray 33 (0, 0)) from kc) k12 (by decide)
        have k11' : (v9.setCell ⟨b11, 0, none⟩ (.int .u8 x.f)).heap[b11]? = some (.cells #[.int .u8 x.f] 31 (0, 0)) := (store1 k11 (o := 0) (v := .int .u8 x.f)).trans rfl
        have k12' : (v9.setCell ⟨b11, 0, none⟩ (.int .u8 x.f)).heap[b12]? = some (.cells #[.int .u8 0, .slice none 0 0, .int .i64 0] 43 (0, 0)) := store_far k12 n12
        have e12 := (store1 (store1 (store1 k12' (o := 0) (v := .int .u8 ga)) (o := 1) (v := .slice gA gn gc)) (o := 2) (v := .int .i64 gm)).trans rfl
        have e11 : ((((v9.setCell ⟨b11, 0, none⟩ (.int .u8 x.f)).setCell ⟨b12, 0, none⟩ (.int .u8 ga)).setCell ⟨b12, 1, none⟩ (.slice gA gn gc)).setCell ⟨b12, 2, none⟩ (.int .i64 gm)).heap[b11]? = some (.cells #[.int .u8 x.f] 31 (0, 0)) := store_far (store_far (store_far k11' n12.symm) n12.symm) n12.symm
        have ec : ((((v9.setCell ⟨b11, 0, none⟩ (.int .u8 x.f)).setCell ⟨b12, 0, none⟩ (.int .u8 ga)).setCell ⟨b12, 1, none⟩ (.slice gA gn gc)).setCell ⟨b12, 2, none⟩ (.int .i64 gm)).heap[w.heap.size]? = some (cobj x) := store_far (store_far (store_far (store_far kc ncq) ncr) ncr) ncr
        have eb := (((hb.setCell (p := ⟨b11, 0, none⟩) l11 (.int .u8 x.f)).setCell (p := ⟨b12, 0, none⟩) l12 (.int .u8 ga)).setCell (p := ⟨b12, 1, none⟩) l12 (.slice gA gn gc)).setCell (p := ⟨b12, 2, none⟩) l12 (.int .i64 gm)
        have eg : GadIs x (.agg #[.int .u8 ga, .slice gA gn gc, .int .i64 gm]) ((((v9.setCell ⟨b11, 0, none⟩ (.int .u8 x.f)).setCell ⟨b12, 0, none⟩ (.int .u8 ga)).setCell ⟨b12, 1, none⟩ (.slice gA gn gc)).setCell ⟨b12, 2, none⟩ (.int .i64 gm)) := hgd.same (fun b o e => by
          have hr := hgd.row e
          have q1 : b ≠ b11 := cells_ne hr k11 (by decide)
          have q2 : b ≠ b12 := cells_ne hr k12 (by decide)
          exact (store_far (store_far (store_far (store_far hr q1) q2) q2) q2).trans hr.symm)
        have hres : Reg4 x w b11 b12 ga gA gn gc gm ((((v9.setCell ⟨b11, 0, none⟩ (.int .u8 x.f)).setCell ⟨b12, 0, none⟩ (.int .u8 ga)).setCell ⟨b12, 1, none⟩ (.slice gA gn gc)).setCell ⟨b12, 2, none⟩ (.int .i64 gm)) := ⟨eb, ec, e11, e12, eg, l11, l12, hgr⟩
        replace hres := Lib.hid hres
        have n12s := n12.symm
        clear eb ec e11 e12 eg k11' k12' k11 k12 kc hb hgd ncq ncr
        go_wp2
        refine calm_normal ?_
        go_wp2
        go_meet
        exact ⟨b11, b12, ga, gA, gn, gc, gm, rfl, rfl, hres.out⟩
  case rest =>
    clear hb kc
    obtain ⟨b11, b12, ga, gA, gn, gc, gm, rfl, rfl, h4⟩ := hcut
    obtain ⟨g0, g1, g2, g3⟩ := h4.cells
    have har := hAr.out _ _ h4.gad
    rw [hn.out] at har
    replace har := Lib.hid har
    replace h4 := Lib.hid h4
    clear hCk
    go_wp2_with fail
    refine call_then har.out ?_
    intro w3 hv
    replace h4 := h4.out.up hv
    clear hv har g0 g1 g2 g3
    go_upto_region 7 with (fail)
    go_cut [13] (fun p w' => ∃ b13 P G R, p = .pointer (some ⟨b13, 0, none⟩) ∧ Reg7 x w b11 b12 ga gA gn gc gm sd n D b13 P G R w')
    case first =>
      refine segS_start (gb := fun _ => True) 6 (by kernel_rfl) (by decide) ?_
      intro v0 hv
      replace h4 := h4.up hv
      clear hv
      refine segS_batch 2 [0, 1, 2, 3] (by kernel_rfl) rfl (by kernel_rfl) (by kernel_rfl) (by kernel_rfl) ?_
      apply Exists.intro
      refine ⟨fun ι _ φ hφ => ?_, fun v1 hv => ?_⟩
      · have qd := fun i => blk6z ((hφ.old i).keeps h4.c trivial)
        have q0 := fun i => (qd i).1
        have q1 := fun i => (qd i).2.1
        have q2 := fun i => (qd i).2.2.1
        have q3 := fun i => (qd i).2.2.2.1
        have q4 := fun i => (qd i).2.2.2.2.1
        have q5 := fun i => (qd i).2.2.2.2.2
        have q6 := fun i => cell_oneP ((hφ.old i).keeps h4.k11 trivial)
        clear qd
        repeat (refine pick_step rfl ?_; go_big_quiet_step ((go_at_call 24; exact flowS_call hφ (hDo.out _))))
        exact pick_end
      replace h4 := h4.up hv
      clear hv
      refine segS_more [4, 5] (by kernel_rfl) (by decide) ?_
      intro y hy
      simp only [List.mem_cons, List.not_mem_nil, or_false] at hy
      rcases hy with rfl | rfl
      · refine ⟨by decide, _, rfl, fun v2 K hv hK => ?_⟩
        replace h4 := h4.up hv
        clear hv
        replace hK := Lib.hid hK
        have hcl := Lib.hid (hNw.out v2 (hS.out.up h4.b))
        go_simp
        refine hcl.out.mono ?_
        rintro e v2' ⟨P, G, R, rfl, hv, hw7, lP, lG, lR⟩
        have hgw : ∀ b o, gA = some ⟨b, o, none⟩ → ¬ ownW P G n R b := fun b o e he => by
          have hlt := lt_of_get (h4.gad.row e)
          rcases he with rfl | rfl | ⟨i, hin, rfl⟩
          · omega
          · omega
          · have := lR i hin; omega
        have hlw : ∀ b, ownW P G n R b → w.heap.size ≤ b := fun b he => by
          have hz := h4.b.size
          rcases he with rfl | rfl | ⟨i, hin, rfl⟩
          · omega
          · omega
          · have := lR i hin; omega
        refine hK.out _ _ (HeldS.of_below hv) ?_
        clear hK K hcl lP lG lR
        replace h4 := h4.up hv
        clear hv
        refine segS_more [5] (by kernel_rfl) (by decide) ?_
        intro y hy
        obtain rfl := List.mem_singleton.1 hy
        refine ⟨by decide, _, rfl, fun v3 K hv hK => ?_⟩
        replace h4 := h4.up hv
        replace hw7 := hw7.up hv
        clear hv
        replace hK := Lib.hid hK
        go_simp
        refine hK.out _ _ (HeldS.of_below ((Below.refl _ _).alloc (Nat.le_refl _) _)) ?_
        clear hK K
        have hv : Below v3.heap.size v3 (v3.alloc (.cells #[.pointer none] 91 (0, 0))) := (Below.refl _ _).alloc (Nat.le_refl _) _
        have k13 : (v3.alloc (.cells #[.pointer none] 91 (0, 0))).heap[v3.heap.size]? = some (.cells #[.pointer none] 91 (0, 0)) := alloc_at rfl
        have l13 := h4.b.size
        replace h4 := h4.up hv
        replace hw7 := hw7.up hv
        clear hv
        generalize (v3.alloc (.cells #[.pointer none] 91 (0, 0))) = v3' at *
        generalize v3.heap.size = b13 at *
        refine segS_tail (by kernel_rfl) ?_
        intro v9 hv
        replace h4 := h4.up hv
        replace hw7 := hw7.up hv
        replace k13 := keeps hv k13
        clear hv
        simp only [List.drop_succ_cons, List.drop_zero]
        have hk1 : v9.cell? ⟨b13, 0, none⟩ = some (.pointer none) ∧ v9.frozen? ⟨b13, 0, none⟩ = false := by simp [World.cell?, World.frozen?, k13]
        obtain ⟨t0, t1⟩ := hk1
        have k13' : (v9.setCell ⟨b13, 0, none⟩ (.pointer (some ⟨P, 0, none⟩))).heap[b13]? = some (.cells #[.pointer (some ⟨P, 0, none⟩)] 91 (0, 0)) := (store1 k13 (o := 0) (v := .pointer (some ⟨P, 0, none⟩))).trans rfl
        have h4' := h4.far k13 l13 (.pointer (some ⟨P, 0, none⟩))
        have hw7' : Wp P G n D R (sdV x.f sd) n 0 (v9.setCell ⟨b13, 0, none⟩ (.pointer (some ⟨P, 0, none⟩))) := hw7.same (fun b hbb => by
          have hne : b ≠ b13 := by
            rcases hbb with rfl | rfl | ⟨i, hin, rfl⟩
            · exact cells_ne hw7.p k13 (by decide)
            · exact cells_ne hw7.g k13 (by decide)
            · exact cells_ne (hw7.r i hin) k13 (by decide)
          exact Below.heap_setCell _ _ _ _ hne)
        have hres : Reg7 x w b11 b12 ga gA gn gc gm sd n D b13 P G R (v9.setCell ⟨b13, 0, none⟩ (.pointer (some ⟨P, 0, none⟩))) := ⟨h4', k13', hw7', hgw, hlw, l13⟩
        replace hres := Lib.hid hres
        clear h4' k13' hw7' h4 hw7 k13 hgw hlw
        go_wp2
        refine calm_normal ?_
        go_wp2
        go_meet
        exact ⟨b13, P, G, R, rfl, hres.out⟩
      · refine ⟨by decide, _, rfl, fun v2 K hv hK => ?_⟩
        replace h4 := h4.up hv
        clear hv
        replace hK := Lib.hid hK
        go_simp
        refine hK.out _ _ (HeldS.of_below ((Below.refl _ _).alloc (Nat.le_refl _) _)) ?_
        clear hK K
        have hv : Below v2.heap.size v2 (v2.alloc (.cells #[.pointer none] 91 (0, 0))) := (Below.refl _ _).alloc (Nat.le_refl _) _
        have k13 : (v2.alloc (.cells #[.pointer none] 91 (0, 0))).heap[v2.heap.size]? = some (.cells #[.pointer none] 91 (0, 0)) := alloc_at rfl
        have l13 := h4.b.size
        replace h4 := h4.up hv
        clear hv
        generalize (v2.alloc (.cells #[.pointer none] 91 (0, 0))) = v2' at *
        generalize v2.heap.size = b13 at *
        refine segS_more [4] (by kernel_rfl) (by decide) ?_
        intro y hy
        obtain rfl := List.mem_singleton.1 hy
        refine ⟨by decide, _, rfl, fun v3 K hv hK => ?_⟩
        replace h4 := h4.up hv
        replace k13 := keeps hv k13
        clear hv
        replace hK := Lib.hid hK
        have hcl := Lib.hid (hNw.out v3 (hS.out.up h4.b))
        go_simp
        refine hcl.out.mono ?_
        rintro e v3' ⟨P, G, R, rfl, hv, hw7, lP, lG, lR⟩
        have hgw : ∀ b o, gA = some ⟨b, o, none⟩ → ¬ ownW P G n R b := fun b o e he => by
          have hlt := lt_of_get (h4.gad.row e)
          rcases he with rfl | rfl | ⟨i, hin, rfl⟩
          · omega
          · omega
          · have := lR i hin; omega
        have hlw : ∀ b, ownW P G n R b → w.heap.size ≤ b := fun b he => by
          have hz := h4.b.size
          rcases he with rfl | rfl | ⟨i, hin, rfl⟩
          · omega
          · omega
          · have := lR i hin; omega
        refine hK.out _ _ (HeldS.of_below hv) ?_
        clear hK K hcl lP lG lR
        replace h4 := h4.up hv
        replace k13 := keeps hv k13
        clear hv
        refine segS_tail (by kernel_rfl) ?_
        intro v9 hv
        replace h4 := h4.up hv
        replace hw7 := hw7.up hv
        replace k13 := keeps hv k13
        clear hv
        simp only [List.drop_succ_cons, List.drop_zero]
        have hk1 : v9.cell? ⟨b13, 0, none⟩ = some (.pointer none) ∧ v9.frozen? ⟨b13, 0, none⟩ = false := by simp [World.cell?, World.frozen?, k13]
        obtain ⟨t0, t1⟩ := hk1
        have k13' : (v9.setCell ⟨b13, 0, none⟩ (.pointer (some ⟨P, 0, none⟩))).heap[b13]? = some (.cells #[.pointer (some ⟨P, 0, none⟩)] 91 (0, 0)) := (store1 k13 (o := 0) (v := .pointer (some ⟨P, 0, none⟩))).trans rfl
        have h4' := h4.far k13 l13 (.pointer (some ⟨P, 0, none⟩))
        have hw7' : Wp P G n D R (sdV x.f sd) n 0 (v9.setCell ⟨b13, 0, none⟩ (.pointer (some ⟨P, 0, none⟩))) := hw7.same (fun b hbb => by
          have hne : b ≠ b13 := by
            rcases hbb with rfl | rfl | ⟨i, hin, rfl⟩
            · exact cells_ne hw7.p k13 (by decide)
            · exact cells_ne hw7.g k13 (by decide)
            · exact cells_ne (hw7.r i hin) k13 (by decide)
          exact Below.heap_setCell _ _ _ _ hne)
        have hres : Reg7 x w b11 b12 ga gA gn gc gm sd n D b13 P G R (v9.setCell ⟨b13, 0, none⟩ (.pointer (some ⟨P, 0, none⟩))) := ⟨h4', k13', hw7', hgw, hlw, l13⟩
        replace hres := Lib.hid hres
        clear h4' k13' hw7' h4 hw7 k13 hgw hlw
        go_wp2
        refine calm_normal ?_
        go_wp2
        go_meet
        exact ⟨b13, P, G, R, rfl, hres.out⟩
    case rest =>
      clear h4
      obtain ⟨b13, P, G, R, rfl, h7⟩ := hcut
      have hno : ∀ (Z : Option Addr), (∀ a, Z = some a → a.block < w.heap.size) → ∀ a, Z = some a → ¬ ownP n P G R b13 b12 b11 gA a.block := fun Z hZ a e ho => by
        have h1 := hZ a e
        have h2 := h7.low ho
        omega
      have hcl := Lib.hid (hRn.out P G R b13 b12 b11 ga gA gn gc gm _ wc (h7.st hn.out) (hA.out.up h7.r4.b) (hno Ax lA.out) (hB.out.up h7.r4.b) (hno Bj lB.out))
      obtain ⟨c0, c1, c2, c3, c4, c5⟩ := blk6z h7.r4.c
      replace h7 := Lib.hid h7
      clear hG hAr hNw hRn hDo hno
      have hmf : ∀ (fn : Fn) (first cap : Array Value) (w : World), (Instr.makeFunc fn first cap).run Tryz.prog w = .ok (.func fn first cap) w := fun _ _ _ _ => rfl
      go_wp2_with fail
      refine hcl.out.mono ?_
      clear hcl
      rintro e w5 ⟨rfl, own', hm, hst2⟩
      have ho' : own' = ownP n P G R b13 b12 b11 gA := by rw [hst2.own, hn.out]; rfl
      subst ho'
      have hb5 := own_below h7.out.r4.b hm (fun b hb => h7.out.low hb)
      have kc5 := (hm.keep _ (lt_of_get h7.out.r4.c) ((h7.out.st hn.out).free h7.out.r4.c)).1.trans h7.out.r4.c
      clear hm c0 c1 c2 c3 c4 c5
      go_upto_region 9 with (fail)
      refine name_wp (fun w6 => Below w.heap.size w w6 ∧ PrSt x sd P G D R b13 b12 b11 ga gA gn gc gm qs (ownP n P G R b13 b12 b11 gA) w6 ∧ w6.heap[w.heap.size]? = some (cobj x)) ⟨hb5.alloc hb5.size _, hst2.on (fun k hk => ((Below.refl _ _).alloc (Nat.le_refl _) _).block k (hst2.lt hk)), alloc_keeps kc5⟩ ?_
      have l11 := Lib.hid h7.out.r4.l11
      clear hb5 hst2 kc5 h7
      rintro w6 ⟨hb, hst, kc⟩
      have hw : Wp P G n D R (wvF x.f sd qs) n (qs.length : Int) w6 := by
        have h1 := hst.wp
        rw [hn.out] at h1
        exact h1
      have hcl := Lib.hid (hWp.out ga gA gn gc gm P G R (wvF x.f sd qs) _ (fun i _ t _ => hVi.out i t) w6 (hT.out.up hb) hw hst.gad)
      have e13 := cell_oneP hst.kw
      have e11 := cell_oneP hst.kf
      obtain ⟨e12, e14, e15, -⟩ := blk3 hst.kg
      have kf := hst.kf
      clear hWp hVi hw hst
      go_wp2_with fail
      refine hcl.out.mono ?_
      clear hcl e11 e12 e13 e14 e15
      rintro e w7 ⟨C, Pl, L, hC, hPl, hL, hEq, B, rfl, hv, hli⟩
      have hsz6 := hb.size
      replace hb := below_next hb hb.size hv
      replace kc := keeps hv kc
      replace kf := keeps hv kf
      replace hC := Lib.hid hC
      replace hPl := Lib.hid hPl
      replace hL := Lib.hid hL
      replace hEq := Lib.hid hEq
      replace hli := hli.low hsz6
      clear hv hsz6
      obtain ⟨c0, c1, c2, c3, c4, c5⟩ := blk6z kc
      go_wp2_with fail
      refine call_then (hPf.out _) ?_
      intro w8 hv
      replace hb := below_next hb hb.size hv
      replace kf := keeps hv kf
      replace hli := hli.up hv
      clear hv c0 c1 c2 c3 c4 c5 kc
      have hpN : Hid (pN = n + (2 * (D - 1) + 1)) := Lib.hid (by rw [← hpNe.out]; unfold Ci.proofN; rw [hn.out, ← hDq.out]; omega)
      have hpN2 : pN ≤ 65536 := by have := hpN.out; omega
      have hmkN := make_elems pN hpN2
      go_upto_region 15 with (fail)
      have hrz := zero_rowP w8 pN
      have ez : lst (fun _ => (0 : Int)) pN = lst (sdL x.f sd 0) pN := lst_congr (fun t _ => by unfold sdL; rw [if_neg (Nat.not_lt_zero _)])
      rw [ez] at hrz
      have hBl := hli.lt
      refine name_wp (fun w9 => Below w.heap.size w w9 ∧ w9.heap[b11]? = some (.cells #[.int .u8 x.f] 31 (0, 0)) ∧ Lies w.heap.size w9 B Pl L ∧ Row w9 w8.heap.size (lst (sdL x.f sd 0) pN)) ⟨hb.alloc hb.size _, alloc_keeps kf, hli.up ((Below.refl _ _).alloc (Nat.le_refl _) _), hrz⟩ ?_
      have hgl := hb.size
      clear hb kf hli hrz ez
      rintro w9 ⟨hb, kf, hli, hr⟩
      obtain ⟨g, hg⟩ : ∃ g, w8.heap.size = g := ⟨_, rfl⟩
      rw [hg] at hr hgl hBl ⊢
      have hBg : Hid (∀ a, B = some a → a.block ≠ g) := Lib.hid (fun a e => Nat.ne_of_lt (hBl a e))
      have hfg : Hid (b11 ≠ g) := Lib.hid (cells_ne kf hr (by decide))
      replace hb := Lib.hid hb
      replace kf := Lib.hid kf
      replace hli := Lib.hid hli
      replace hr := Lib.hid hr
      replace hgl := Lib.hid hgl
      clear hg hBl
      go_upto_region 16 with (fail)
      go_loopw [65] (fun i wr => ∃ j : Nat, i = .int .i64 (j : Int) ∧ j ≤ n ∧ Hid (Below w.heap.size w wr) ∧ Hid (wr.heap[b11]? = some (.cells #[.int .u8 x.f] 31 (0, 0))) ∧ Hid (Lies w.heap.size wr B Pl L) ∧ Hid (Row wr g (lst (sdL x.f sd j) pN))) (fun i _ => n - (intOf i).toNat)
      case atStart => exact ⟨0, rfl, Nat.zero_le _, hb, kf, hli, hr⟩
      case round =>
        clear hb kf hli hr
        obtain ⟨j, rfl, hj, hb, kf, hli, hr⟩ := hrel
        by_cases hlt : j < n
        · have j0 : (0 : Int) ≤ (j : Int) := by omega
          have j1 : (j : Int) < (n : Int) := by omega
          have hjN : j < pN := by have := hpN.out; omega
          have j2 : (j : Int) < (pN : Int) := by omega
          have j3 : (pN : Int) ≤ 65536 := by omega
          obtain ⟨p, o, rfl, hc0, hc1⟩ := (hS.out.up hb.out) j (by rw [hsl.out]; exact hlt)
          have hz := hs.out.at_ (k := j) (by rw [hsl.out]; exact hlt)
          have hst := Lib.hid (sdL_set x.f sd j pN)
          obtain ⟨z, hze⟩ : ∃ z, sd.getD j 0 = z := ⟨_, rfl⟩
          rw [hze] at hst hc0 hc1 hz
          have hsz := Lib.hid (hsm.out z hz)
          clear hze
          go_upto_region 18 with (fail)
          refine name_wp (fun w1 => Below w.heap.size w w1 ∧ w1.heap[b11]? = some (.cells #[.int .u8 x.f] 31 (0, 0)) ∧ Lies w.heap.size w1 B Pl L ∧ Row w1 g (lst (sdL x.f sd j) pN) ∧ Holds w1 wr.heap.size z) ⟨hb.out.alloc hb.out.size _, alloc_keeps kf.out, hli.out.up ((Below.refl _ _).alloc (Nat.le_refl _) _), hr.out.alloc _, alloc_at rfl⟩ ?_
          clear hb kf hli hr hc0 hc1
          rintro v1 ⟨hb, kf, hli, hr, kz⟩
          obtain ⟨q, hq⟩ : ∃ q, wr.heap.size = q := ⟨_, rfl⟩
          rw [hq] at kz ⊢
          clear hq
          have e11 := cell_oneP kf
          obtain ⟨z0, z1, -, -⟩ := blk2 kz
          have hrz : Row (v1.alloc (.cells #[.int .u64 (lo z), .int .u64 (hi z)] 28)) v1.heap.size [z] := (show Row _ _ _ from alloc_at rfl)
          have hcl := Lib.hid (hsz.out (some ⟨v1.heap.size, 0, none⟩) _ hrz.elems)
          replace hb := hb.alloc hb.size (.cells #[.int .u64 (lo z), .int .u64 (hi z)] 28)
          replace kf := alloc_keeps (o := .cells #[.int .u64 (lo z), .int .u64 (hi z)] 28) kf
          replace hli := hli.up ((Below.refl v1.heap.size v1).alloc (Nat.le_refl _) (.cells #[.int .u64 (lo z), .int .u64 (hi z)] 28))
          replace hr := hr.alloc (.cells #[.int .u64 (lo z), .int .u64 (hi z)] 28)
          replace hb := Lib.hid hb
          replace kf := Lib.hid kf
          replace hli := Lib.hid hli
          replace hr := Lib.hid hr
          clear hrz hsz kz
          go_wp2_with fail
          refine hcl.out.mono ?_
          clear hcl e11 z0 z1
          rintro e v2 ⟨rfl, hv⟩
          have hb2 := below_next hb.out hb.out.size hv
          have kf2 := keeps hv kf.out
          have hli2 := hli.out.up hv
          have hr2 := hr.out.up hv
          clear hb kf hli hr hv
          have s0 := hr2.lo (k := j) (by rw [lst_length]; exact hjN)
          have s1 := hr2.hi (k := j) (by rw [lst_length]; exact hjN)
          have f0 := hr2.free (j * 2)
          have f1 := hr2.free (j * 2 + 1)
          have hr3 := hr2.set (k := j) (by rw [lst_length]; exact hjN) (add x.f 0 z)
          rw [hst.out] at hr3
          have hb3 := below_store2' hb2 hgl.out (u := .int .u64 (lo (add x.f 0 z))) (v := .int .u64 (hi (add x.f 0 z))) (i := j * 2) (k := j * 2 + 1)
          have kf3 := store2_farx kf2 hfg.out (u := .int .u64 (lo (add x.f 0 z))) (v := .int .u64 (hi (add x.f 0 z))) (i := j * 2) (j := j * 2 + 1)
          have hli3 := hli2.far hBg.out (u := .int .u64 (lo (add x.f 0 z))) (v := .int .u64 (hi (add x.f 0 z))) (i := j * 2) (j := j * 2 + 1)
          replace hb3 := Lib.hid hb3
          replace kf3 := Lib.hid kf3
          replace hli3 := Lib.hid hli3
          replace hr3 := Lib.hid hr3
          clear hb2 kf2 hli2 hr2 hst
          go_wp2
          exact ⟨⟨j + 1, by first | rfl | go_num, by omega, hb3, kf3, hli3, hr3⟩, by simp [intOf]; omega⟩
        · obtain rfl : n = j := by omega
          obtain ⟨w2, hcp, hrow, hbe⟩ := copy_lies hli.out hr.out (show n + L ≤ pN by have := hpN.out; have := hL.out; omega)
          have hbe2 := Lib.hid (hbe w.heap.size w hb.out hgl.out)
          rw [proofL_copied] at hrow
          replace hrow := Lib.hid hrow
          have n0 : (0 : Int) ≤ (n : Int) := by omega
          have n1 : (n : Int) ≤ (pN : Int) := by have := hpN.out; omega
          have n2 : (pN : Int) ≤ 65536 := by omega
          have hsl := cut_tail g n pN (by have := hpN.out; omega)
          obtain ⟨T, hT⟩ : ∃ T, pN - n = T := ⟨_, rfl⟩
          rw [hT] at hsl hcp
          clear hb kf hli hr hbe hT
          go_wp2
          go_ret2
          exact ⟨C, Pl, L, g, by have h1 := hC.out; exact h1, hPl.out, hL.out, hEq.out, rfl, hbe2.out, hgl.out, by first | exact hrow.out | (rw [hn.out]; exact hrow.out)⟩
end Go.Proofs.YtebgfelbffgnbaaGreatDoor
