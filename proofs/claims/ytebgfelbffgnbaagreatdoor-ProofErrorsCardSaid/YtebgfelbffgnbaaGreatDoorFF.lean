import Derived.Test.YtebgfelbffgnbaaGreatDoorFE
import Derived.Deep.DeepCutAuto
import Derived.Deep.CutBlock
import Derived.Test.YtebgfelbffgnbaaGreatDoorFD
import Derived.Test.YtebgfelbffgnbaaGreatDoorFB
/-
  Whether any gadget may be one.
-/
namespace Go.Proofs.YtebgfelbffgnbaaGreatDoor
open Go.RowKit F Flow
set_option linter.unusedVariables false
set_option linter.unusedSimpArgs false
attribute [local go_sem] eql_elem

/-- What In answers. -/
def FinBy (f : Int) : Prop := ∀ a, 0 ≤ a → a < 340282366920938463463374607431768211456 → ∀ w, Calls Tryz.prog 163 #[.int .u8 f, .agg #[.int .u64 (lo a), .int .u64 (hi a)]] w fun e w' => e = .returned (.bool (decide (a < M f))) ∧ Below w.heap.size w w'
/-- Whether these may be an Eval's coefficients. -/
def chkC (f : Int) (cs : List Int) (n : Nat) : Int := if n < 2 ∨ 4 < n then 9 else if cs.getD (n - 1) 0 = 0 then 9 else if ∀ k, k < n → cs.getD k 0 < M f then 0 else 7
/-- Whether a gadget may be one. -/
def chkV (f k : Int) (cs : List Int) (n : Nat) (m : Int) : Int := if k = 1 then 0 else if k = 2 then chkC f cs n else if k = 3 then (if m < 1 ∨ 16 < m then 6 else 0) else 10
end Go.Proofs.YtebgfelbffgnbaaGreatDoor

/-
  Products and sums of polynomials, told by their values.
-/
namespace Go.Proofs.YtebgfelbffgnbaaGreatDoor
open Go.RowKit F Flow
set_option linter.unusedVariables false
set_option linter.unusedSimpArgs false

/-- A polynomial without noughts at the end, of elements. -/
structure Poly (f : Int) (P : Nat → Int) (L : Nat) : Prop where
  p : ∀ t, 0 ≤ P t ∧ P t < M f
  top : 0 < L → P (L - 1) ≠ 0
theorem mul_val {f : Int} (ft : Ft f) (hR : ∀ m, m ≤ 10 → RootOf f m (rt f m)) (F G : Nat → Int) (n k : Nat) (hF : Lim F n) (hG : Lim G k) (hnk : n + k ≤ 1025) (hn : n ≤ 1024) (hk : k ≤ 1024) (A B : Option Addr) (c d : Nat) (w : World) (hT : Tabs w) (hA : ElemsAt w A (lst F n)) (hB : ElemsAt w B (lst G k)) :
    Calls Tryz.prog 144 #[.int .u8 f, .slice A n c, .slice B k d] w fun e w' => ∃ P L, Poly f P L ∧ L ≤ n + k - 1 ∧ (n = 0 → L = 0) ∧ (k = 0 → L = 0) ∧ (∀ t, Eqm (M f) (pf t P L) (pf t (rd f F) n * pf t (rd f G) k)) ∧ MOut P L w e w' := by
  have hla := tl_le (rd f F) n
  have hlb := tl_le (rd f G) k
  refine (pmul_any ft hR F G n k A B c d hF hG (by omega) (by omega) w hT hA hB).mono ?_
  rintro e w' (⟨h0, h⟩ | ⟨h0, _⟩ | ⟨h0, h⟩)
  · refine ⟨fun _ => 0, 0, ⟨fun t => ⟨Int.le_refl _, M_pos f⟩, fun h => absurd h (Nat.lt_irrefl _)⟩, by omega, fun _ => rfl, fun _ => rfl, fun t => ?_, h⟩
    rcases h0 with h0 | h0
    · rw [← pf_tl t (rd f F) n, h0, pf, pf, Int.zero_mul]; rfl
    · rw [← pf_tl t (rd f G) k, h0, pf, pf, Int.mul_zero]; rfl
  · omega
  · refine ⟨_, _, ⟨cv_in f _ _ _ _, fun h0 => tl_last _ _ h0⟩, ?_, fun hn0 => by omega, fun hk0 => by omega, fun t => ?_, h⟩
    · have := tl_le (cv f (rd f F) (rd f G) (tl (rd f G) k) (tl (rd f F) n)) (tl (rd f F) n + tl (rd f G) k - 1)
      omega
    · rw [pf_tl]
      have h1 : Eqm (M f) (pf t (cv f (rd f F) (rd f G) (tl (rd f G) k) (tl (rd f F) n)) (tl (rd f F) n + tl (rd f G) k - 1)) (pf t (cs (rd f F) (rd f G) (tl (rd f G) k) (tl (rd f F) n)) (tl (rd f F) n + tl (rd f G) k - 1)) := pf_congr Eqm.rfl' _ (fun i _ => eqm_mod _ _)
      rw [pf_cs t (rd f F) (rd f G) (tl (rd f G) k) (tl (rd f F) n) _ (by omega) (.inr (by omega)) (fun _ => trivial), pf_tl, pf_tl] at h1
      exact h1
theorem ext_rd (f : Int) (F : Nat → Int) (n i : Nat) : ext (rd f F) n i = redu f (ext F n i) := by
  unfold ext rd
  split
  · rfl
  · exact (redu_zero f).symm
theorem av_rd (f : Int) (F G : Nat → Int) (n k : Nat) : av f F G n k = av f (rd f F) (rd f G) n k := by
  funext i
  unfold av
  rw [ext_rd, ext_rd]
  unfold add
  rw [redu_redu, redu_redu]
theorem add_val {f : Int} (ft : Ft f) (F G : Nat → Int) (n k : Nat) (hF : Lim F n) (hG : Lim G k) (hn : n ≤ 1024) (hk : k ≤ 1024) (A B : Option Addr) (c d : Nat) (w : World) (hA : ElemsAt w A (lst F n)) (hB : ElemsAt w B (lst G k)) :
    Calls Tryz.prog 145 #[.int .u8 f, .slice A n c, .slice B k d] w fun e w' => ∃ P L, Poly f P L ∧ L ≤ max n k ∧ (∀ t, Eqm (M f) (pf t P L) (pf t (rd f F) n + pf t (rd f G) k)) ∧ POut P L w e w' := by
  refine (padd_any ft F G n k A B c d hF hG (by omega) (by omega) w hA hB).mono ?_
  intro e w' h
  refine ⟨av f F G n k, tl (av f F G n k) (max n k), ⟨av_in f _ _ _ _, fun h0 => tl_last _ _ h0⟩, tl_le _ _, fun t => ?_, h⟩
  rw [pf_tl, av_rd]
  exact av_pf (rd_in f F) (rd_in f G) n k t
end Go.Proofs.YtebgfelbffgnbaaGreatDoor

/-
  An Eval's value at a polynomial.
-/
namespace Go.Proofs.YtebgfelbffgnbaaGreatDoor
open Go.RowKit F Flow
set_option linter.unusedVariables false
set_option linter.unusedSimpArgs false
attribute [local go_sem] eql_elem

/-- How long it is at most. -/
def bd (n : Nat) : Nat → Nat
  | 0 => 1
  | p + 1 => bd n p + (n - 1)
theorem bd_pos (n : Nat) : ∀ p, 1 ≤ bd n p
  | 0 => Nat.le_refl _
  | p + 1 => Nat.le_trans (bd_pos n p) (Nat.le_add_right _ _)
theorem bd_le {n : Nat} (h : n ≤ 41) : ∀ p, bd n p ≤ 1 + p * 40
  | 0 => by simp [bd]
  | p + 1 => by
    have := bd_le h p
    rw [bd]
    omega
theorem cut_one (b o N c s : Nat) (cs : List Int) (hl : cs.length = N) (hs : s < N) (hc : N ≤ c) :
    ∃ A' c', (∀ w' : World, (Instr.slice 25 (.slice (some ⟨b, o, none⟩) N c) (some (.int .i64 (s : Int))) (some (.int .i64 ((s : Int) + 1))) none).run Tryz.prog w' = .ok (.slice A' 1 c') w') ∧ ∀ (w : World), ElemsAt w (some ⟨b, o, none⟩) cs → ElemsAt w A' (lst (fun _ => cs.getD s 0) 1) := by
  refine ⟨some ⟨b, o + s * 2, none⟩, c - s, fun w' => ?_, fun w h => ?_⟩
  · rw [run_slice_lh w' 25 (some ⟨b, o, none⟩) N c (by kernel_rfl) .i64 .i64 (s : Int) ((s : Int) + 1) (by omega) (by omega) (by omega), show (Tryz.prog).elem 25 = 28 by kernel_rfl, Tryz.sizeOf28]
    have e1 : ((s : Int) + 1).toNat = s + 1 := by omega
    have e2 : ¬ c = s := by omega
    simp [Result.andThen, sliced, e1, e2, Addr.add]
  · intro k hk
    rw [lst_length] at hk
    obtain rfl : k = 0 := by omega
    obtain ⟨b', o', e, h0, h1⟩ := h s (by omega)
    cases e
    exact ⟨b, o + s * 2, rfl, h0, h1⟩
theorem pS_drop (x : Int) {cs : List Int} {s : Nat} (h : s < cs.length) : pS x (cs.drop s) = cs.getD s 0 + x * pS x (cs.drop (s + 1)) := by
  rw [List.drop_eq_getElem_cons h, pS]
  simp [h]
set_option maxRecDepth 20000 in
set_option maxHeartbeats 4000000 in
theorem evp_any {f : Int} (ft : Ft f) (hR : ∀ m, m ≤ 10 → RootOf f m (rt f m)) (cs : List Int) (N : Nat) (hl : cs.length = N) (hN1 : 1 ≤ N) (hN4 : N ≤ 4) (hok : InG f cs) (b o c : Nat) (hc : N ≤ c) (m : Int) (X : Nat → Int) (n : Nat) (hn : n ≤ 40) (hX : Lim X n) (B : Option Addr) (d : Nat) (w : World) (hT : Tabs w) (hA : ElemsAt w (some ⟨b, o, none⟩) cs) (hB : ElemsAt w B (lst X n)) :
    Calls Tryz.prog 143 #[gvl 2 (some ⟨b, o, none⟩) N c m, .int .u8 f, .slice B n d] w fun e w' => ∃ P L, Poly f P L ∧ L ≤ bd n (N - 1) ∧ (∀ t, Eqm (M f) (pf t P L) (pS (pf t (rd f X) n) cs)) ∧ MOut P L w e w' := by
  have hmv : Hid (∀ (F : Nat → Int) (k : Nat), k ≤ 200 → (∀ t, 0 ≤ F t ∧ F t < M f) → ∀ A c w, Tabs w → ElemsAt w A (lst F k) → ElemsAt w B (lst X n) → Calls Tryz.prog 144 #[.int .u8 f, .slice A k c, .slice B n d] w fun e w' => ∃ P L, Poly f P L ∧ L ≤ k + n - 1 ∧ (k = 0 → L = 0) ∧ (n = 0 → L = 0) ∧ (∀ t, Eqm (M f) (pf t P L) (pf t F k * pf t (rd f X) n)) ∧ MOut P L w e w') := Lib.hid (fun F k hk hF A c w hT hA hB => by
    have h := mul_val ft hR F X k n (lim_f (f := f) hF) hX (by omega) (by omega) (by omega) A B c d w hT hA hB
    rw [rd_same hF] at h
    exact h)
  have hav : Hid (∀ (F : Nat → Int) (k : Nat) (y : Int), k ≤ 400 → (∀ t, 0 ≤ F t ∧ F t < M f) → 0 ≤ y ∧ y < M f → ∀ A A' c c' w, ElemsAt w A (lst F k) → ElemsAt w A' (lst (fun _ => y) 1) → Calls Tryz.prog 145 #[.int .u8 f, .slice A k c, .slice A' 1 c'] w fun e w' => ∃ P L, Poly f P L ∧ L ≤ max k 1 ∧ (∀ t, Eqm (M f) (pf t P L) (pf t F k + y)) ∧ POut P L w e w') := Lib.hid (fun F k y hk hF hy A A' c c' w hA hA' => by
    have h := add_val ft F (fun _ => y) k 1 (lim_f (f := f) hF) (lim_f (f := f) (fun _ => hy)) (by omega) (by omega) A A' c c' w hA hA'
    rw [rd_same hF, rd_same (F := fun _ => y) (fun _ => hy)] at h
    have e : ∀ t, pf t (fun _ => y) 1 = y := fun t => by simp [pf]
    simp only [e] at h
    exact h)
  have hcut := Lib.hid (fun s hs => cut_one b o N c s cs hl hs hc)
  unfold MOut at hmv
  unfold POut at hav
  unfold MOut
  unfold gvl
  have hgb : b < w.heap.size := by
    obtain ⟨b', o', e, h0, _⟩ := hA 0 (by omega)
    cases e
    exact World.block_lt_of_cell? _ _ h0
  clear ft hR hX hc
  replace hl := Lib.hid hl
  replace hok := Lib.hid hok
  go_enter Tryz.func143, Tryz.ntmps143
  go_upto_region 2 with (fail)
  refine name_wp (fun w1 => Below w.heap.size w w1 ∧ w1.heap[w.heap.size]? = some (.cells #[.int .u8 2, .slice (some ⟨b, o, none⟩) N c, .int .i64 m] 43 (0, 0))) ⟨(Below.refl _ _).alloc (Nat.le_refl _) _, alloc_at rfl⟩ ?_
  rintro w1 ⟨hb, k0⟩
  obtain ⟨p0, p1, p2, _⟩ := blk3 k0
  go_wp2
  clear p0 p1 p2
  go_loopw [8, 9] (fun v i wr => ∃ (j : Nat) (As : Option Addr) (S : Nat → Int) (L : Nat), j ≤ N ∧ i = .int .i64 ((j : Int) - 1) ∧ v = .slice As L L ∧ Below w.heap.size w wr ∧ wr.heap[w.heap.size]? = some (.cells #[.int .u8 2, .slice (some ⟨b, o, none⟩) N c, .int .i64 m] 43 (0, 0)) ∧ Lies w.heap.size wr As S L ∧ Hid (Poly f S L ∧ (j = N → L = 0) ∧ (j < N → L ≤ bd n (N - 1 - j)) ∧ ∀ t, Eqm (M f) (pf t S L) (pS (pf t (rd f X) n) (cs.drop j)))) (fun _ i _ => (intOf i + 1).toNat)
  case atStart =>
    refine ⟨N, none, fun _ => 0, 0, Nat.le_refl _, by go_num, rfl, hb, k0, .inl ⟨rfl, rfl⟩, Lib.hid ⟨⟨fun t => ⟨Int.le_refl _, M_pos f⟩, fun h => absurd h (Nat.lt_irrefl _)⟩, fun _ => rfl, fun h => absurd h (Nat.lt_irrefl _), fun t => ?_⟩⟩
    rw [List.drop_of_length_le (by rw [hl.out]; exact Nat.le_refl _)]
    rfl
  case round =>
    clear hb k0
    obtain ⟨j, As, S, L, hj, rfl, rfl, hb, k0, hLi, hI⟩ := hrel
    cases j with
    | zero =>
      have e0 : ((0 : Nat) : Int) - 1 = -1 := by omega
      rw [e0]
      have hI' := hI.out
      have hfin : Hid (Poly f S L ∧ L ≤ bd n (N - 1) ∧ (∀ t, Eqm (M f) (pf t S L) (pS (pf t (rd f X) n) cs))) := Lib.hid ⟨hI'.1, hI'.2.2.1 (by omega), by have h := hI'.2.2.2; rw [List.drop_zero] at h; exact h⟩
      replace hLi := Lib.hid hLi
      clear hI hI' hmv hav hcut
      go_wp2
      go_ret2
      exact ⟨S, L, hfin.out.1, hfin.out.2.1, hfin.out.2.2, As, rfl, hb, hLi.out⟩
    | succ s =>
      have e0 : ((s + 1 : Nat) : Int) - 1 = (s : Int) := by omega
      rw [e0]
      obtain ⟨hP, hL0, hL1, hval⟩ := hI.out
      clear hI
      have hLb : L ≤ 121 := by
        rcases Nat.lt_or_ge (s + 1) N with h | h
        · have h1 := hL1 h
          have h2 := bd_le (n := n) (by omega) (N - 1 - (s + 1))
          omega
        · have := hL0 (by omega)
          omega
      have hm1 := Lib.hid (hmv.out S L (by omega) hP.p)
      have hsl : s < cs.length := by rw [hl.out]; omega
      have hy := hok.out s hsl
      obtain ⟨A', c', hcs1, hcs2⟩ := hcut.out s (by omega)
      have s0 : (0 : Int) ≤ (s : Int) := by omega
      have s1 : (s : Int) < (N : Int) := by omega
      obtain ⟨y, hye⟩ : ∃ y, y = cs.getD s 0 := ⟨_, rfl⟩
      rw [← hye] at hcs2 hy
      have hpS : ∀ x, pS x (cs.drop s) = y + x * pS x (cs.drop (s + 1)) := fun x => by rw [pS_drop x hsl, hye]
      replace hye := Lib.hid hye
      replace hcs2 := Lib.hid hcs2
      replace hpS := Lib.hid hpS
      replace hval := Lib.hid hval
      replace hL0 := Lib.hid hL0
      replace hL1 := Lib.hid hL1
      have hcs9 := Lib.hid hcs1
      clear hcs1 hP
      go_wp2_with fail
      refine (hm1.out As L wr (hT.up hb) hLi.elems (hB.up hb)).mono ?_
      rintro e w5 ⟨P1, L1, hP1, hb1, hz1, hz2, hv1, A1, rfl, hb2, hLi1⟩
      replace hLi1 := hLi1.low hb.size
      replace hb := below_next hb hb.size hb2
      replace k0 := keeps hb2 k0
      have ha1 := Lib.hid (hav.out P1 L1 y (by omega) hP1.p hy)
      have hcs1 := hcs9.out w5
      replace hz1 := Lib.hid hz1
      replace hz2 := Lib.hid hz2
      replace hv1 := Lib.hid hv1
      clear hb2 hLi hm1
      obtain ⟨p0, p1, p2, _⟩ := blk3 k0
      go_wp2_with fail
      clear p0 p1 p2 hcs1
      refine (ha1.out _ _ _ _ _ hLi1.elems (hcs2.out _ (hA.up hb))).mono ?_
      rintro e w6 ⟨P2, L2, hP2, hbl2, hv2, A2, rfl, hb2, hLi2⟩
      replace hLi2 := hLi2.low hb.size
      replace hb := below_next hb hb.size hb2
      replace k0 := keeps hb2 k0
      have hI2 : Hid (Poly f P2 L2 ∧ (s = N → L2 = 0) ∧ (s < N → L2 ≤ bd n (N - 1 - s)) ∧ ∀ t, Eqm (M f) (pf t P2 L2) (pS (pf t (rd f X) n) (cs.drop s))) := Lib.hid (by
        refine ⟨hP2, fun h => by omega, fun _ => ?_, fun t => ?_⟩
        · rcases Nat.lt_or_ge (s + 1) N with h | h
          · have h1 := hL1.out h
            have h2 : bd n (N - 1 - s) = bd n (N - 1 - (s + 1)) + (n - 1) := by rw [show N - 1 - s = N - 1 - (s + 1) + 1 by omega]; rfl
            have h3 := bd_pos n (N - 1 - (s + 1))
            rcases Nat.eq_zero_or_pos n with hn0 | hn0
            · have := hz2.out hn0
              omega
            · rcases Nat.eq_zero_or_pos L with hL | hL
              · have := hz1.out hL
                omega
              · omega
          · have h1 := hL0.out (by omega)
            have h2 := hz1.out h1
            have h3 := bd_pos n (N - 1 - s)
            omega
        · rw [hpS.out]
          refine (hv2 t).trans' ?_
          rw [Int.add_comm y]
          refine Eqm.add ?_ rfl
          refine (hv1.out t).trans' ?_
          rw [Int.mul_comm]
          exact Eqm.mul rfl (hval.out t))
      clear hb2 hLi1 hv2 hbl2 hP2 ha1
      go_wp2
      exact ⟨⟨s, A2, P2, L2, by omega, by go_num, rfl, hb, k0, hLi2, hI2⟩, by simp [intOf]⟩
end Go.Proofs.YtebgfelbffgnbaaGreatDoor
