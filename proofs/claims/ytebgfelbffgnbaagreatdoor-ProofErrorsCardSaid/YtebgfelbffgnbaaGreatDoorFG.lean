import Derived.Test.YtebgfelbffgnbaaGreatDoorFF
import Derived.Deep.DeepCutAuto
import Derived.Deep.CutBlock
/-
  What any gadget says of any numbers, of any polynomial: contracts that tell what is refused, and that there is an answer.
-/
namespace Go.Proofs.YtebgfelbffgnbaaGreatDoor
open Go.RowKit F Flow
set_option linter.unusedVariables false
set_option linter.unusedSimpArgs false
attribute [local go_sem] eql_elem

/-- What Check says, where something lasts. -/
def ChkBy (f : Int) (v : Value) (W : Int) (C : World → Prop) : Prop := ∀ w, C w → Calls Tryz.prog 128 #[v, .int .u8 f] w fun e w' => e = .returned (.int .i64 W) ∧ Below w.heap.size w w'
/-- What checkIn says of so many. -/
def CinBy (f : Int) (v : Value) (L : Nat) (W : Int) (C : World → Prop) : Prop := ∀ w, C w → Calls Tryz.prog 88 #[v, .int .u8 f, .int .i64 (L : Int)] w fun e w' => e = .returned (.int .i64 W) ∧ Below w.heap.size w w'
theorem cin_ok (f k m : Int) (A : Option Addr) (n c N L : Nat) (C : World → Prop) (hN : N ≤ 100) (hL : L ≤ 200) (hup : ∀ w w', Below w.heap.size w w' → C w → C w') (hch : ChkBy f (gvl k A n c m) 0 C) (har : ∀ w, Calls Tryz.prog 16 #[gvl k A n c m] w fun e w' => e = .returned (.int .i64 (N : Int)) ∧ Below w.heap.size w w') : CinBy f (gvl k A n c m) L (if L = N then 0 else 9) C := fun w hC =>
  gci_any f k m A n c N L C hN hL hup hch har w hC
end Go.Proofs.YtebgfelbffgnbaaGreatDoor

/-
  What any gadget answers of any numbers and of any polynomial.
-/
namespace Go.Proofs.YtebgfelbffgnbaaGreatDoor
open Go.RowKit F Flow
set_option linter.unusedVariables false
set_option linter.unusedSimpArgs false
attribute [local go_sem] eql_elem

def OfR (W : Int) (w : World) (e : Ending) (w' : World) : Prop := ∃ x y e0, e = .returned (.tuple #[.agg #[.int .u64 x, .int .u64 y], .int .i64 e0]) ∧ (W ≠ 0 → e0 = W ∧ x = 0 ∧ y = 0) ∧ Below w.heap.size w w'
def PlR (W : Int) (w : World) (e : Ending) (w' : World) : Prop := ∃ A L e0, e = .returned (.tuple #[.slice A L L, .int .i64 e0]) ∧ (W ≠ 0 → e0 = W ∧ A = none ∧ L = 0) ∧ Below w.heap.size w w'
/-- What the law asks of a gadget. -/
structure Ans (f : Int) (v : Value) (W : Int) (B : Option Addr) (L cb : Nat) (C : World → Prop) : Prop where
  of : ∀ w, C w → Calls Tryz.prog 33 #[v, .int .u8 f, .slice B L cb] w (OfR W w)
  poly : ∀ (g d : Nat) w, C w → w.cell? ⟨g, 0, none⟩ = some (.slice B L cb) → Calls Tryz.prog 109 #[v, .int .u8 f, .slice (some ⟨g, 0, none⟩) 1 d] w (PlR W w)
  chk : ChkBy f v W C
end Go.Proofs.YtebgfelbffgnbaaGreatDoor

/-
  A gadget of pairs, of polynomials.
-/
namespace Go.Proofs.YtebgfelbffgnbaaGreatDoor
open Go.RowKit F Flow
set_option linter.unusedVariables false
set_option linter.unusedSimpArgs false
attribute [local go_sem] eql_elem

/-- A list of lists of numbers. -/
def PolysAt (w : World) (g o N : Nat) (A : Nat → Option Addr) (n c : Nat → Nat) (F : Nat → Nat → Int) : Prop := ∀ i, i < N → w.cell? ⟨g, o + i, none⟩ = some (.slice (A i) (n i) (c i)) ∧ ElemsAt w (A i) (lst (F i) (n i))
theorem PolysAt.up {w w' : World} {g o N : Nat} {A : Nat → Option Addr} {n c : Nat → Nat} {F : Nat → Nat → Int} (h : PolysAt w g o N A n c F) (hb : Below w.heap.size w w') : PolysAt w' g o N A n c F := fun i hi => by
  obtain ⟨h1, h2⟩ := h i hi
  exact ⟨(hb.cell (World.block_lt_of_cell? _ _ h1)).trans h1, h2.up hb⟩
/-- The sum of the pairs' values. -/
def sv (f t : Int) (n : Nat → Nat) (F : Nat → Nat → Int) : Nat → Int
  | 0 => 0
  | j + 1 => sv f t n F j + pf t (rd f (F (j * 2))) (n (j * 2)) * pf t (rd f (F (j * 2 + 1))) (n (j * 2 + 1))
set_option maxRecDepth 20000 in
set_option maxHeartbeats 4000000 in
theorem gpoly_pairs {f : Int} (ft : Ft f) (hR : ∀ m, m ≤ 10 → RootOf f m (rt f m)) (k m : Int) (hk : (k == 2) = false) (A0 : Option Addr) (n0 c0 Q : Nat) (hQ : Q ≤ 20) (C : World → Prop) (hup : ∀ w w', Below w.heap.size w w' → C w → C w') (ht : CinBy f (gvl k A0 n0 c0 m) (Q * 2) 0 C)
    (A : Nat → Option Addr) (n c : Nat → Nat) (F : Nat → Nat → Int) (mx : Nat) (hmx : mx ≤ 40) (hn : ∀ i, i < Q * 2 → n i ≤ mx ∧ Lim (F i) (n i)) (g o d : Nat) (w : World) (hC : C w) (hT : Tabs w) (hP : PolysAt w g o (Q * 2) A n c F) :
    Calls Tryz.prog 109 #[gvl k A0 n0 c0 m, .int .u8 f, .slice (some ⟨g, o, none⟩) (Q * 2) d] w fun e w' => ∃ P L, Poly f P L ∧ L ≤ 2 * (mx - 1) + 1 ∧ (∀ t, Eqm (M f) (pf t P L) (sv f t n F Q)) ∧ MOut P L w e w' := by
  have hmv : Hid (∀ i j, i < Q * 2 → j < Q * 2 → ∀ w, Tabs w → ElemsAt w (A i) (lst (F i) (n i)) → ElemsAt w (A j) (lst (F j) (n j)) → Calls Tryz.prog 144 #[.int .u8 f, .slice (A i) (n i) (c i), .slice (A j) (n j) (c j)] w fun e w' => ∃ P L, Poly f P L ∧ L ≤ 2 * (mx - 1) + 1 ∧ (∀ t, Eqm (M f) (pf t P L) (pf t (rd f (F i)) (n i) * pf t (rd f (F j)) (n j))) ∧ MOut P L w e w') := Lib.hid (fun i j hi hj w hT h1 h2 => by
    obtain ⟨a1, a2⟩ := hn i hi
    obtain ⟨b1, b2⟩ := hn j hj
    refine (mul_val ft hR (F i) (F j) (n i) (n j) a2 b2 (by omega) (by omega) (by omega) _ _ _ _ w hT h1 h2).mono ?_
    rintro e w' ⟨P, L, hP, hL, -, -, hv, ho⟩
    exact ⟨P, L, hP, by omega, hv, ho⟩)
  have hav : Hid (∀ (G H : Nat → Int) (a b : Nat), a ≤ 2 * (mx - 1) + 1 → b ≤ 2 * (mx - 1) + 1 → (∀ t, 0 ≤ G t ∧ G t < M f) → (∀ t, 0 ≤ H t ∧ H t < M f) → ∀ A A' c c' w, ElemsAt w A (lst G a) → ElemsAt w A' (lst H b) → Calls Tryz.prog 145 #[.int .u8 f, .slice A a c, .slice A' b c'] w fun e w' => ∃ P L, Poly f P L ∧ L ≤ 2 * (mx - 1) + 1 ∧ (∀ t, Eqm (M f) (pf t P L) (pf t G a + pf t H b)) ∧ POut P L w e w') := Lib.hid (fun G H a b ha hb hG hH A A' c c' w hA hA' => by
    have h := add_val ft G H a b (lim_f (f := f) hG) (lim_f (f := f) hH) (by omega) (by omega) A A' c c' w hA hA'
    rw [rd_same hG, rd_same hH] at h
    refine h.mono ?_
    rintro e w' ⟨P, L, hP, hL, hv, ho⟩
    exact ⟨P, L, hP, by omega, hv, ho⟩)
  unfold MOut at hmv
  unfold POut at hav
  unfold MOut
  unfold CinBy gvl at *
  replace ht := Lib.hid ht
  replace hup := Lib.hid hup
  replace hn := Lib.hid hn
  have hM0 := Lib.hid (M_pos f)
  clear ft hR
  go_enter Tryz.func109, Tryz.ntmps109
  go_wp2_with fail
  refine name_calls (fun w1 => Below w.heap.size w w1 ∧ w1.heap[w.heap.size]? = some (.cells #[.int .u8 k, .slice A0 n0 c0, .int .i64 m] 43 (0, 0))) ⟨(Below.refl _ _).alloc (Nat.le_refl _) _, alloc_at rfl⟩ ?_
  rintro w1 ⟨hb, k0⟩
  refine call_then (ht.out _ (hup.out _ _ hb hC)) ?_
  intro w2 hb2
  replace hb := below_next hb hb.size hb2
  replace k0 := keeps hb2 k0
  clear hb2
  obtain ⟨c0, c1, c2, _⟩ := blk3 k0
  go_wp2
  clear c0 c1 c2 k0 ht hup hC
  go_loopw [9, 10] (fun v i wr => ∃ (j J : Nat) (As : Option Addr) (S : Nat → Int) (L : Nat), j ≤ Q ∧ Hid (J = j * 2) ∧ i = .int .i64 (J : Int) ∧ v = .slice As L L ∧ Below w.heap.size w wr ∧ Lies w.heap.size wr As S L ∧ Hid (Poly f S L ∧ L ≤ 2 * (mx - 1) + 1 ∧ ∀ t, Eqm (M f) (pf t S L) (sv f t n F j))) (fun _ i _ => Q * 2 - (intOf i).toNat)
  case atStart =>
    exact ⟨0, 0, none, fun _ => 0, 0, Nat.zero_le _, Lib.hid rfl, rfl, rfl, hb, .inl ⟨rfl, rfl⟩, Lib.hid ⟨⟨fun t => ⟨Int.le_refl _, hM0.out⟩, fun h => absurd h (Nat.lt_irrefl _)⟩, Nat.zero_le _, fun t => rfl⟩⟩
  case round =>
    clear hb
    obtain ⟨j, J, As, S, L, hj, hJ, rfl, rfl, hb, hLi, hI⟩ := hrel
    by_cases hlt : j < Q
    · have e1 : J < Q * 2 := by have := hJ.out; omega
      have e2 : J + 1 < Q * 2 := by have := hJ.out; omega
      have hPr := hP.up hb
      obtain ⟨q1, r1⟩ := hPr J e1
      obtain ⟨q2, r2⟩ := hPr (J + 1) e2
      clear hPr
      have hm1 := Lib.hid (hmv.out J (J + 1) e1 e2)
      have hsv : Hid (∀ t, sv f t n F (j + 1) = sv f t n F j + pf t (rd f (F J)) (n J) * pf t (rd f (F (J + 1))) (n (J + 1))) := Lib.hid (fun t => by rw [sv, hJ.out])
      have i0 : (0 : Int) ≤ (J : Int) := by omega
      have i1 : (J : Int) < ((Q * 2 : Nat) : Int) := by omega
      have i2 : (J : Int) + 1 < ((Q * 2 : Nat) : Int) := by omega
      have hgl := World.block_lt_of_cell? _ _ q1
      generalize F J = F1 at *
      generalize F (J + 1) = F2 at *
      generalize n J = n1 at *
      generalize n (J + 1) = n2 at *
      generalize A J = A1 at *
      generalize A (J + 1) = A2 at *
      generalize c J = d1 at *
      generalize c (J + 1) = d2 at *
      replace hLi := Lib.hid hLi
      replace r1 := Lib.hid r1
      replace r2 := Lib.hid r2
      go_wp2
      refine seg_start 16 (by kernel_rfl) (by decide) ?_
      intro v0 hv
      have q1' := (hv.cell hgl).trans q1
      have q2' := (hv.cell hgl).trans q2
      have hLi' := hLi.out.up hv
      have r1' := r1.out.up hv
      have r2' := r2.out.up hv
      replace hb := below_next hb hb.size hv
      clear hv q1 q2 r1 r2 hLi hgl
      refine seg_batch 6 [0, 1, 2, 3, 4, 5, 6, 7, 8, 9] (by kernel_rfl) rfl (by kernel_rfl) (by kernel_rfl) (by kernel_rfl) ?_
      apply Exists.intro
      refine ⟨fun ι _ φ hφ => ?_, fun v1 hv => ?_⟩
      · have a1 := fun i => hφ.cell q1' i
        have a2 := fun i => hφ.cell q2' i
        repeat (refine pick_step rfl ?_; go_big_quiet_step (fail))
        exact pick_end
      replace hLi' := hLi'.up hv
      replace r1' := r1'.up hv
      replace r2' := r2'.up hv
      replace hb := below_next hb hb.size hv
      clear hv q1' q2'
      refine seg_one 10 _ (by decide) rfl (by kernel_rfl) ?_
      intro v2 K hv hK
      replace hLi' := hLi'.up hv
      replace r1' := r1'.up hv
      replace r2' := r2'.up hv
      replace hb := below_next hb hb.size hv
      clear hv
      replace hK := Lib.hid hK
      go_simp
      refine (hm1.out v2 (hT.up hb) r1' r2').mono ?_
      rintro e v3 ⟨P1, L1, hP1, hb1, hv1, B1, rfl, hb2, hLi1⟩
      refine hK.out _ _ hb2 ?_
      clear hK K r1' r2' hm1
      replace hLi1 := hLi1.low hb.size
      replace hLi' := hLi'.up hb2
      replace hb := below_next hb hb.size hb2
      clear hb2
      refine seg_batch 0 [11, 12, 13, 14, 15] (by kernel_rfl) rfl (by kernel_rfl) (by kernel_rfl) (by kernel_rfl) ?_
      apply Exists.intro
      refine ⟨fun ι _ φ hφ => ?_, fun v4 hv => ?_⟩
      · repeat (refine pick_step rfl ?_; go_big_quiet_step (fail))
        exact pick_end
      replace hLi1 := hLi1.up hv
      replace hLi' := hLi'.up hv
      replace hb := below_next hb hb.size hv
      clear hv
      refine seg_done rfl (by kernel_rfl) ?_
      intro v5 hv
      replace hLi1 := hLi1.up hv
      replace hLi' := hLi'.up hv
      replace hb := below_next hb hb.size hv
      clear hv
      have ha1 := Lib.hid (hav.out S P1 L L1 hI.out.2.1 hb1 hI.out.1.p hP1.p)
      replace hv1 := Lib.hid hv1
      replace hLi1 := Lib.hid hLi1
      replace hLi' := Lib.hid hLi'
      clear hb1 hP1
      go_wp2_with fail
      refine (ha1.out _ _ _ _ _ hLi'.out.elems hLi1.out.elems).mono ?_
      rintro e w6 ⟨P2, L2, hP2, hbl2, hv2, B2, rfl, hb2, hLi2⟩
      replace hLi2 := hLi2.low hb.size
      replace hb := below_next hb hb.size hb2
      have hI2 : Hid (Poly f P2 L2 ∧ L2 ≤ 2 * (mx - 1) + 1 ∧ ∀ t, Eqm (M f) (pf t P2 L2) (sv f t n F (j + 1))) := Lib.hid ⟨hP2, hbl2, fun t => by
        rw [hsv.out]
        exact (hv2 t).trans' (Eqm.add (hI.out.2.2 t) (hv1.out t))⟩
      clear hb2 hLi1 hLi' hv2 hbl2 hP2 ha1
      go_wp2
      exact ⟨⟨j + 1, J + 2, B2, P2, L2, by omega, Lib.hid (by have := hJ.out; omega), by first | rfl | go_num, rfl, hb, hLi2, hI2⟩, by simp [intOf]; omega⟩
    · obtain rfl : Q = j := by omega
      obtain rfl : J = Q * 2 := hJ.out
      replace hLi := Lib.hid hLi
      clear hmv hav
      go_wp2
      go_ret2
      exact ⟨S, L, hI.out.1, hI.out.2.1, hI.out.2.2, As, rfl, hb, hLi.out⟩
end Go.Proofs.YtebgfelbffgnbaaGreatDoor
