/-
  Polynomials: the greatest that goes into two.
-/
import Derived.Test.YtbpedpkhhjfhjaaDoorPoR
import Derived.Deep.DeepCutAuto
import Derived.Deep.CutBlock
namespace Go.Proofs.YtbpedpkhhjfhjaaDoor
open Go.RowKit F Flow
set_option linter.unusedVariables false
set_option linter.unusedSimpArgs false
attribute [local go_sem] eql_elem

/-- What is kept in the loop. -/
structure CmI (f : Int) (F' G' Af : Nat → Int) (la : Nat) (Bf : Nat → Int) (lb : Nat) : Prop where
  a : ∀ k, 0 ≤ Af k ∧ Af k < M f
  b : ∀ k, 0 ≤ Bf k ∧ Bf k < M f
  aTop : 0 < la → Af (la - 1) ≠ 0
  bTop : 0 < lb → Bf (lb - 1) ≠ 0
  fwd : ∀ r, Idl (M f) r F' → Idl (M f) r G' → Idl (M f) r (ext Af la) ∧ Idl (M f) r (ext Bf lb)
  back : ∀ r, Idl (M f) r (ext Af la) → Idl (M f) r (ext Bf lb) → Idl (M f) r F' ∧ Idl (M f) r G'
theorem CmI.step {f : Int} {F' G' Af Bf T R : Nat → Int} {la lb nT nR : Nat} (h : CmI f F' G' Af la Bf lb) (hD : DivF f Af la Bf lb T nT R nR) : CmI f F' G' Bf lb R nR := by
  refine ⟨h.b, hD.r, h.bTop, hD.rTop, fun r h1 h2 => ?_, fun r h1 h2 => ?_⟩
  · obtain ⟨k1, k2⟩ := h.fwd r h1 h2
    refine ⟨k2, ?_⟩
    have k3 : Idl (M f) r (fun k => ext Af la k + (-1) * ml (lst T nT) (ext Bf lb) k) := .add k1 (.smul (-1) (k2.trans (idl_ml _)))
    refine .eqm k3 (fun k => ?_)
    have h5 := (hD.whole k).add (Eqm.rfl' (m := M f) (a := (-1) * ml (lst T nT) (ext Bf lb) k))
    have e : ml (lst T nT) (ext Bf lb) k + ext R nR k + (-1) * ml (lst T nT) (ext Bf lb) k = ext R nR k := by omega
    rw [e] at h5
    exact h5
  · refine h.back r ?_ h1
    have k3 : Idl (M f) r (fun k => ml (lst T nT) (ext Bf lb) k + ext R nR k) := .add (h1.trans (idl_ml _)) h2
    exact .eqm k3 (fun k => (hD.whole k).symm')
/-- The greatest that goes into both. -/
structure GcdF (f : Int) (F' G' C : Nat → Int) (nc : Nat) : Prop where
  c : ∀ k, 0 ≤ C k ∧ C k < M f
  pos : 0 < nc
  top : C (nc - 1) = 1
  dF : Idl (M f) (ext C nc) F'
  dG : Idl (M f) (ext C nc) G'
  most : ∀ r, Idl (M f) r F' → Idl (M f) r G' → Idl (M f) r (ext C nc)
theorem CmI.last {f : Int} {F' G' Af Bf : Nat → Int} {la : Nat} {v : Int} (h : CmI f F' G' Af la Bf 0) (h0 : 0 < la) (hv : 0 ≤ v ∧ v < M f) (hm : mul f (Af (la - 1)) v = 1) : GcdF f F' G' (fun i => mul f (Af i) v) la := by
  have e0 : ext Bf 0 = fun _ => 0 := by funext k; exact ext_far _ (Nat.zero_le _)
  have hext : ∀ k, Eqm (M f) (ext (fun i => mul f (Af i) v) la k) (v * ext Af la k) := fun k => by
    unfold ext
    split
    · rw [Int.mul_comm v]; exact mul_eqm f _ _ (h.a k) hv
    · rw [Int.mul_zero]; rfl
  have hA : Idl (M f) (ext (fun i => mul f (Af i) v) la) (ext Af la) := by
    refine .eqm (.smul (Af (la - 1)) .base) (fun k => ?_)
    refine (Eqm.mul rfl (hext k)).trans' ?_
    have h1 : Eqm (M f) (Af (la - 1) * v) 1 := by
      have := mul_eqm f _ _ (h.a (la - 1)) hv
      rw [hm] at this
      exact this.symm'
    have h2 := h1.mul (Eqm.rfl' (m := M f) (a := ext Af la k))
    rw [Int.one_mul, Int.mul_assoc] at h2
    exact h2
  have hC : Idl (M f) (ext Af la) (ext (fun i => mul f (Af i) v) la) := .eqm (.smul v .base) (fun k => (hext k).symm')
  obtain ⟨d1, d2⟩ := h.back _ hA (by rw [e0]; exact .zero)
  exact ⟨fun k => mul_bound f _ _, h0, hm, d1, d2, fun r h1 h2 => (h.fwd r h1 h2).1.trans hC⟩
/-- What goes into another one leaves nothing. -/
theorem rest_nil {f : Int} (ft : Ft f) {Z D T R : Nat → Int} {nz nd nT nR : Nat} (hD : DivF f Z nz D nd T nT R nR) (hI : Idl (M f) (ext D nd) (ext Z nz)) (hDin : ∀ k, 0 ≤ D k ∧ D k < M f) (htop : D (nd - 1) ≠ 0) : nR = 0 := by
  have hM := M_lt f
  have hd1 := hDin (nd - 1)
  obtain ⟨v, hv, hm, -⟩ := (ft.hinv (D (nd - 1)) hd1.1 (by omega)).2 (by rw [redu_of_lt hd1.1 hd1.2]; exact htop)
  have h1 : Eqm (M f) (D (nd - 1) * v) 1 := by
    have := mul_eqm f _ _ hd1 hv
    rw [hm] at this
    exact this.symm'
  have hlow := hD.low
  have e1 : ext D nd (nd - 1) = D (nd - 1) := ext_at _ (by omega)
  obtain ⟨q, hq⟩ := idl_rep hI
  have hu : ∀ k, Eqm (M f) (ml (padd q ((lst T nT).map ((-1) * ·))) (ext D nd) k) (ext R nR k) := fun k => by
    rw [ml_padd, ml_map]
    have h5 := ((hq k).symm'.trans' (hD.whole k)).add (Eqm.rfl' (m := M f) (a := (-1) * ml (lst T nT) (ext D nd) k))
    have e : ml (lst T nT) (ext D nd) k + ext R nR k + (-1) * ml (lst T nT) (ext D nd) k = ext R nR k := by omega
    rw [e] at h5
    exact h5
  have hz := ml_deg (m := M f) (v := v) (d := ext D nd) (n := nd - 1) (fun k hk => ext_far _ (by omega)) (by rw [e1]; exact h1) _ _ rfl (fun k hk => by
    refine (hu k).trans' ?_
    rw [ext_far R (by omega)]
    rfl)
  rcases Nat.eq_zero_or_pos nR with h | h
  · exact h
  · have h6 := (hu (nR - 1)).symm'.trans' (hz (nR - 1))
    rw [ext_at R (by omega)] at h6
    exact absurd (in_eq (hD.r _) ⟨Int.le_refl _, M_pos f⟩ h6) (hD.rTop h)
def lenV : Value → Nat
  | .slice _ n _ => n
  | _ => 0
/-- What is kept of the world in the loop. -/
structure CmK (f : Int) (w : World) (A B : Option Addr) (Af : Nat → Int) (la : Nat) (Bf : Nat → Int) (lb : Nat) (wr : World) : Prop where
  below : Below w.heap.size w wr
  a : Lies w.heap.size wr A Af la
  b : Lies w.heap.size wr B Bf lb
  apart : ∀ g g', A = some ⟨g, 0, none⟩ → B = some ⟨g', 0, none⟩ → g ≠ g'
theorem CmK.up {f : Int} {w : World} {A B : Option Addr} {Af Bf : Nat → Int} {la lb : Nat} {w1 w2 : World} (h : CmK f w A B Af la Bf lb w1) (hb : Below w1.heap.size w1 w2) : CmK f w A B Af la Bf lb w2 :=
  ⟨below_next h.below h.below.size hb, h.a.up hb, h.b.up hb, h.apart⟩
theorem Lies.lt {B : Nat} {w : World} {A : Option Addr} {F : Nat → Int} {n : Nat} (h : Lies B w A F n) {g : Nat} (e : A = some ⟨g, 0, none⟩) : B ≤ g ∧ g < w.heap.size := by
  rcases h with ⟨_, h⟩ | ⟨_, g', hg, h, hr⟩
  · rw [h] at e; cases e
  · rw [h] at e; cases e; exact ⟨hg, lt_of_get hr⟩
set_option maxRecDepth 20000 in
set_option maxHeartbeats 4000000 in
theorem pcommon_any {f : Int} (ft : Ft f) (F G : Nat → Int) (n k : Nat) (hF : ∀ t, 0 ≤ F t ∧ F t < M f) (hG : ∀ t, 0 ≤ G t ∧ G t < M f) (hn : n ≤ 64) (hk : k ≤ 64) (A B : Option Addr) (c d : Nat) (w : World) (hA : ElemsAt w A (lst F n)) (hB : ElemsAt w B (lst G k)) :
    Calls Tryd.prog 36 #[.int .u8 f, .slice A n c, .slice B k d] w fun e w' => (tl F n = 0 ∧ tl G k = 0 ∧ e = .returned (.tuple #[.slice none 0 0, .int .i64 0]) ∧ Below w.heap.size w w') ∨ ∃ A' C nc, (0 < tl F n ∨ 0 < tl G k) ∧ nc ≤ 64 ∧ e = .returned (.tuple #[.slice A' nc nc, .int .i64 0]) ∧ Below w.heap.size w w' ∧ Lies w.heap.size w' A' C nc ∧ GcdF f (ext F n) (ext G k) C nc := by
  have hval := Lib.hid ft.hval
  have hca := Lib.hid (fun w h => clean_any ft F n A c (lim_f (f := f) hF) (by omega) w h)
  have hcb := Lib.hid (fun w h => clean_any ft G k B d (lim_f (f := f) hG) (by omega) w h)
  rw [show (fun i => redu f (F i)) = F from rd_same hF] at hca
  rw [show (fun i => redu f (G i)) = G from rd_same hG] at hcb
  unfold POut at hca hcb
  have hla := tl_le F n
  have hlb := tl_le G k
  have hI0 : CmI f (ext F n) (ext G k) F (tl F n) G (tl G k) := by
    have e1 : ext F (tl F n) = ext F n := by funext t; exact ext_tl F n t
    have e2 : ext G (tl G k) = ext G k := by funext t; exact ext_tl G k t
    refine ⟨hF, hG, tl_last F n, tl_last G k, ?_, ?_⟩
    · rw [e1, e2]; exact fun r h1 h2 => ⟨h1, h2⟩
    · rw [e1, e2]; exact fun r h1 h2 => ⟨h1, h2⟩
  have hz : Hid (tl F n = 0 → tl G k = 0 → tl F n = 0 ∧ tl G k = 0) := Lib.hid (fun h1 h2 => ⟨h1, h2⟩)
  have hdv : Hid (∀ (a b : Nat → Int) (na nb : Nat), (∀ t, 0 ≤ a t ∧ a t < M f) → (∀ t, 0 ≤ b t ∧ b t < M f) → 1 ≤ nb → b (nb - 1) ≠ 0 → na ≤ 64 → nb ≤ 64 → ∀ (A B : Option Addr) (B0 : Nat) (w : World), Lies B0 w A a na → Lies B0 w B b nb → B0 ≤ w.heap.size → (∀ g g', A = some ⟨g, 0, none⟩ → B = some ⟨g', 0, none⟩ → g ≠ g') →
      Calls Tryd.prog 63 #[.int .u8 f, .slice A na na, .slice B nb nb] w fun e w' => ∃ A1 A2 T R nT nR, e = .returned (.tuple #[.slice A1 nT nT, .slice A2 nR nR, .int .i64 0]) ∧ (∃ g, B0 ≤ g ∧ B ≠ some ⟨g, 0, none⟩ ∧ But g w w') ∧ Lies w.heap.size w' A2 R nR ∧ DivF f a na b nb T nT R nR) := Lib.hid (by
    intro a b na nb ha hb h1 hne hna hnb A B B0 w hA hB h0 hap
    rcases hB with ⟨h, _⟩ | ⟨_, gb, hgb, rfl, hrb⟩
    · omega
    · by_cases c : na < nb
      · refine (divide_short ft a b na nb ha hb h1 hne c (by omega) A w.heap.size gb w hA.elems hrb).mono ?_
        rintro e w' ⟨A1, A2, T, R, nT, nR, he, hbut, _, hL, hD⟩
        exact ⟨A1, A2, T, R, nT, nR, he, ⟨_, h0, fun e => by have := lt_of_get hrb; cases e; omega, hbut⟩, hL, hD⟩
      · rcases hA with ⟨h, _⟩ | ⟨_, g, hg, rfl, hra⟩
        · omega
        · have hne' := hap g gb rfl rfl
          refine (divide_long ft a b na nb ha hb h1 hne (by omega) (by omega) g gb (Ne.symm hne') w hra hrb).mono ?_
          rintro e w' ⟨A1, A2, T, R, nT, nR, he, hbut, _, hL, hD⟩
          exact ⟨A1, A2, T, R, nT, nR, he, ⟨g, hg, fun e => hne' (by cases e; rfl), hbut⟩, hL, hD⟩)
  have hsc : Hid (∀ (a : Nat → Int) (na : Nat) (v : Int), (∀ t, 0 ≤ a t ∧ a t < M f) → na ≤ 64 → 0 ≤ v ∧ v < M f → mul f (a (na - 1)) v = 1 → ∀ A c w, ElemsAt w A (lst a na) → Calls Tryd.prog 20 #[.int .u8 f, .slice A na c, .agg #[.int .u64 (lo v), .int .u64 (hi v)]] w (POut (fun i => mul f (a i) v) na w)) := Lib.hid (by
    intro a na v ha hna hv hm A c w hA
    have hM := M_lt f
    have h := scale_any ft a na v A c (lim_f (f := f) ha) (by omega) hv.1 (by omega) w hA
    rw [tl_full (F := fun i => mul f (a i) v) (n := na) (fun _ => by show mul f (a (na - 1)) v ≠ 0; rw [hm]; decide)] at h
    exact h)
  unfold POut at hsc
  have hinv := Lib.hid ft.hinv
  have hMl := M_lt f
  generalize hna : tl F n = na at *
  generalize hnb : tl G k = nb at *
  replace hna := Lib.hid hna
  replace hnb := Lib.hid hnb
  clear ft
  have y1 : ¬ ((64 : Int) < (na : Int)) := by omega
  have y2 : ¬ ((64 : Int) < (nb : Int)) := by omega
  replace hI0 := Lib.hid hI0
  replace hF := Lib.hid hF
  replace hG := Lib.hid hG
  go_enter Tryd.func36, Tryd.ntmps36
  go_wp2_with fail
  refine call_then (hval.out _) ?_
  intro w1 hw1
  go_wp2_with fail
  refine (hca.out _ (hA.up hw1)).mono ?_
  rintro e w2 ⟨A2, rfl, hw2, hLa⟩
  replace hLa := hLa.low hw1.size
  replace hw1 := below_next hw1 hw1.size hw2
  clear hw2
  go_wp2_with fail
  refine (hcb.out _ (hB.up hw1)).mono ?_
  rintro e w3 ⟨B2, rfl, hw2, hLb⟩
  have hk : CmK f w A2 B2 F na G nb w3 := ⟨below_next hw1 hw1.size hw2, hLa.up hw2, hLb.low hw1.size, fun g g' e e' => by
    have h1 := (hLa.lt e).2
    have h2 := (hLb.lt e').1
    omega⟩
  clear hca hcb hval hA hB hw1 hw2 hLa hLb
  go_wp2
  go_loopw [1, 2] (fun va vb wr => ∃ A B la lb Af Bf, la ≤ 64 ∧ lb ≤ 64 ∧ va = .slice A la la ∧ vb = .slice B lb lb ∧ CmK f w A B Af la Bf lb wr ∧ Hid (CmI f (ext F n) (ext G k) Af la Bf lb) ∧ Hid (na = 0 → nb = 0 → la = 0 ∧ lb = 0) ∧ Hid (la = 0 → lb = 0 → na = 0 ∧ nb = 0)) (fun _ vb _ => lenV vb)
  case atStart => exact ⟨A2, B2, na, nb, F, G, by omega, by omega, rfl, rfl, hk, hI0, Lib.hid (fun h1 h2 => ⟨h1, h2⟩), Lib.hid (fun h1 h2 => ⟨h1, h2⟩)⟩
  case round =>
    clear hk hI0 y1 y2
    obtain ⟨A3, B3, la, lb, Af, Bf, hla', hlb', rfl, rfl, hk, hI, z1, z2⟩ := hrel
    by_cases c : lb = 0
    · subst c
      by_cases c2 : la = 0
      · subst c2
        have hb := hk.below
        have hz3 := z2.out rfl rfl
        replace hz3 := Lib.hid hz3
        clear hk hI z1 z2
        go_wp2
        go_ret2
        exact .inl ⟨hz3.out.1, hz3.out.2, rfl, hb⟩
      · obtain ⟨q, hq⟩ : ∃ q, q = la - 1 := ⟨_, rfl⟩
        have hl1 : Af q = Af (la - 1) := by rw [hq]
        have hbq := hI.out.a q
        obtain ⟨v, hv, hmv, hcv⟩ := (hinv.out (Af q) hbq.1 (by omega)).2 (by rw [redu_of_lt hbq.1 hbq.2, hl1]; exact hI.out.aTop (by omega))
        rw [hl1] at hmv
        have hsc1 := Lib.hid (hsc.out Af la v hI.out.a hla' hv hmv)
        have hg := Lib.hid (hI.out.last (by omega) hv hmv)
        obtain ⟨g3, hg3, rfl, hr3⟩ : ∃ g, w.heap.size ≤ g ∧ A3 = some ⟨g, 0, none⟩ ∧ Row wr g (lst Af la) := by
          rcases hk.a with ⟨h, _⟩ | ⟨_, g, h1, h2, h3⟩
          · omega
          · exact ⟨g, h1, h2, h3⟩
        have c0 := hr3.lo (k := q) (by rw [lst_length]; omega)
        have c1 := hr3.hi (k := q) (by rw [lst_length]; omega)
        rw [lst_at Af (by omega)] at c0 c1
        generalize Af q = y at *
        have eq : (la : Int) - 1 = (q : Int) := by omega
        have q1 : (q : Int) < (la : Int) := by omega
        have y3 : ((la : Int) == 0) = false := by rw [beq_eq_false_iff_ne]; omega
        have hb := hk.below
        replace hq := Lib.hid hq
        replace hcv := Lib.hid hcv
        have hla9 : 0 < la := by omega
        have hpos : Hid (0 < na ∨ 0 < nb) := Lib.hid (by
          rcases Nat.eq_zero_or_pos na with h1 | h1
          · rcases Nat.eq_zero_or_pos nb with h2 | h2
            · have := (z1.out h1 h2).1
              omega
            · exact .inr h2
          · exact .inl h1)
        clear hl1 hbq hk hI z1 z2 hv hmv
        go_wp2_with fail
        refine call_then (hcv.out _) ?_
        intro w5 hw5
        replace hb := below_next hb hb.size hw5
        replace hr3 := hr3.up hw5
        clear hw5 c0 c1 hcv
        go_wp2_with fail
        have hb2 := hb.alloc hb.size (.cells #[.int .u64 (lo v), .int .u64 (hi v)] 25 (0, 0))
        refine (hsc1.out _ _ _ (hr3.alloc _).elems).mono ?_
        rintro e w6 ⟨A6, rfl, hw6, hL6⟩
        replace hL6 := Lib.hid (hL6.low hb2.size)
        replace hb := below_next hb2 hb2.size hw6
        clear hb2 hw6 hr3 hsc1
        go_wp2
        go_ret2
        exact .inr ⟨A6, _, la, hpos.out, hla', rfl, hb, hL6.out, hg.out⟩
    · have y3 : (0 : Int) < (lb : Int) := by omega
      have hI' := hI.out
      have hd1 := Lib.hid (hdv.out Af Bf la lb hI'.a hI'.b (by omega) (hI'.bTop (by omega)) hla' hlb' A3 B3 w.heap.size wr hk.a hk.b hk.below.size hk.apart)
      clear hI'
      go_wp2_with fail
      refine (hd1.out).mono ?_
      rintro e w5 ⟨A1, A5, T, R, nT, nR, rfl, ⟨g, hg, hBg, hbut⟩, hL, hD⟩
      have hI2 := Lib.hid (hI.out.step hD)
      have hlow := hD.low
      have hBg' : Lies w.heap.size w5 B3 Bf lb := by
        rcases hk.b with ⟨h, _⟩ | ⟨h0, gb, h1, h2, h3⟩
        · omega
        · exact .inr ⟨h0, gb, h1, h2, (hbut.block gb (lt_of_get h3) (fun e => hBg (by rw [h2, e]))).trans h3⟩
      have hk2 : CmK f w B3 A5 Bf lb R nR w5 := ⟨hbut.below hk.below hg hk.below.size, hBg', hL.low hk.below.size, fun g1 g2 e1 e2 => by
        have h1 := (hk.b.lt e1).2
        have h2 := (hL.lt e2).1
        omega⟩
      have z3 : Hid (na = 0 → nb = 0 → lb = 0 ∧ nR = 0) := Lib.hid (fun h1 h2 => by have := z1.out h1 h2; omega)
      have z4 : Hid (lb = 0 → nR = 0 → na = 0 ∧ nb = 0) := Lib.hid (fun h1 h2 => by omega)
      clear hk hI z1 z2 hd1 hD hL hBg' hbut
      go_wp2
      exact ⟨⟨B3, A5, lb, nR, Bf, R, hlb', by omega, rfl, rfl, hk2, hI2, z3, z4⟩, by simp only [lenV]; exact hlow⟩
/-- Too many coefficients. -/
theorem pcommon_many {f : Int} (ft : Ft f) (F G : Nat → Int) (n k : Nat) (hF : ∀ t, 0 ≤ F t ∧ F t < M f) (hG : ∀ t, 0 ≤ G t ∧ G t < M f) (hn : n ≤ 1024) (hk : k ≤ 1024) (hbig : 64 < tl F n) (A B : Option Addr) (c d : Nat) (w : World) (hA : ElemsAt w A (lst F n)) (hB : ElemsAt w B (lst G k)) :
    Calls Tryd.prog 36 #[.int .u8 f, .slice A n c, .slice B k d] w fun e w' => e = .returned (.tuple #[.slice none 0 0, .int .i64 5]) ∧ Below w.heap.size w w' := by
  have hval := Lib.hid ft.hval
  have hca := Lib.hid (fun w h => clean_any ft F n A c (lim_f (f := f) hF) (by omega) w h)
  have hcb := Lib.hid (fun w h => clean_any ft G k B d (lim_f (f := f) hG) (by omega) w h)
  rw [show (fun i => redu f (F i)) = F from rd_same hF] at hca
  rw [show (fun i => redu f (G i)) = G from rd_same hG] at hcb
  unfold POut at hca hcb
  generalize tl F n = na at *
  generalize tl G k = nb at *
  have y1 : (64 : Int) < (na : Int) := by omega
  clear ft hF hG
  go_enter Tryd.func36, Tryd.ntmps36
  go_wp2_with fail
  refine call_then (hval.out _) ?_
  intro w1 hw1
  go_wp2_with fail
  refine (hca.out _ (hA.up hw1)).mono ?_
  rintro e w2 ⟨A2, rfl, hw2, hLa⟩
  replace hw1 := below_next hw1 hw1.size hw2
  clear hw2 hLa
  go_wp2_with fail
  refine (hcb.out _ (hB.up hw1)).mono ?_
  rintro e w3 ⟨B2, rfl, hw2, hLb⟩
  replace hw1 := below_next hw1 hw1.size hw2
  clear hca hcb hval hA hB hw2 hLb
  go_wp2
  go_ret2
  exact ⟨rfl, hw1⟩
end Go.Proofs.YtbpedpkhhjfhjaaDoor
