/-
  Polynomials: values; products by the program and by the document; the example.
-/
import Derived.Test.YtbpedpkhhjfhjaaDoorPoE
import Derived.Test.YtbpedpkhhjfhjaaDoorPoH
import Derived.Test.YtbpedpkhhjfhjaaDoorPoI
import Derived.Test.YtbpedpkhhjfhjaaDoorPolyAt
namespace Go.Proofs.YtbpedpkhhjfhjaaDoor
open Go.RowKit F Flow
set_option linter.unusedVariables false
set_option linter.unusedSimpArgs false
attribute [local go_sem] eql_elem

theorem hz_pS (f x : Int) (x0 : 0 ≤ x) (x1 : x < M f) : ∀ p : List Int, InF f p → hz (mul f) (add f) x p = pS x p % M f
  | [], _ => by simp [hz, pS]
  | c :: cs, h => by
    have hc := h 0 (by simp)
    simp only [List.getD_cons_zero] at hc
    have hM := M_pos f
    have hm := Int.emod_nonneg (pS x cs) (b := M f) (by omega)
    have hm2 := Int.emod_lt_of_pos (pS x cs) hM
    rw [hz, hz_pS f x x0 x1 cs h.tail]
    unfold mul
    rw [redu_of_lt hm hm2, redu_of_lt x0 x1]
    unfold add
    rw [redu_of_lt (Int.emod_nonneg _ (by omega)) (Int.emod_lt_of_pos _ hM), redu_of_lt hc.1 hc.2, pS, Int.emod_add_emod, Int.add_emod, emod_mul, ← Int.add_emod, Int.mul_comm x, Int.add_comm c]
theorem add_redu_r (f a b : Int) : add f a (redu f b) = add f a b := by unfold add; rw [redu_redu]
theorem hz_redu (f x : Int) : ∀ p : List Int, hz (mul f) (add f) x p = hz (mul f) (add f) (redu f x) (p.map (redu f))
  | [] => rfl
  | c :: cs => by
    rw [List.map_cons, hz, hz, ← hz_redu f x cs, mul_redu_r, add_redu_r]
theorem lst_map (g : Int → Int) (F : Nat → Int) (n : Nat) : (lst F n).map g = lst (fun i => g (F i)) n := by simp [lst]
/-- Any polynomial's value. -/
theorem hz_lst (f x : Int) (F : Nat → Int) (n : Nat) : hz (mul f) (add f) x (lst F n) = pf (redu f x) (rd f F) n % M f := by
  have e : (lst F n).map (redu f) = lst (rd f F) n := lst_map _ _ _
  rw [hz_redu, e, hz_pS f _ (redu_nonneg _ _) (redu_lt _ _) _ (lst_in (fun t _ => rd_in f F t)), ← pS_pf]
theorem pat_any {f : Int} (ft : Ft f) (F : Nat → Int) (n : Nat) (x : Int) (A : Option Addr) (c : Nat) (hF : Lim F n) (hn : n ≤ 5000) (x0 : 0 ≤ x) (x1 : x < 340282366920938463463374607431768211456) (w : World) (hA : ElemsAt w A (lst F n)) :
    Calls Tryd.prog 22 #[.int .u8 f, .slice A n c, .agg #[.int .u64 (lo x), .int .u64 (hi x)]] w fun e w' => e = .returned (.agg #[.int .u64 (lo (pf (redu f x) (rd f F) n % M f)), .int .u64 (hi (pf (redu f x) (rd f F) n % M f))]) ∧ Below w.heap.size w w' := by
  have h := at_any f x (mul f) (add f) (lst F n) A c hF.ok (by rw [lst_length]; omega) x0 x1 ft.hmul ft.hadd w hA
  rw [hz_lst, lst_length] at h
  exact h
theorem rd_same {f : Int} {F : Nat → Int} (h : ∀ t, 0 ≤ F t ∧ F t < M f) : rd f F = F := by
  funext t
  exact redu_of_lt (h t).1 (h t).2
theorem ml_tl (F : Nat → Int) (d : Nat → Int) : ∀ n k, ml (lst F (tl F n)) d k = ml (lst F n) d k
  | 0, k => rfl
  | n + 1, k => by
    rw [tl]
    split
    · rename_i e
      rw [lst_succ, ml_snoc, e, Int.zero_mul, Int.add_zero]
      exact ml_tl F d n k
    · rfl
theorem ml_nil : ∀ (l : List Int) (k : Nat), ml l (fun _ => 0) k = 0
  | [], k => rfl
  | a :: l, k => by
    have h : ml l (fun _ => 0) = fun _ => 0 := funext (ml_nil l)
    show a * 0 + sh (ml l (fun _ => 0)) k = 0
    rw [h, sh_zero]
    simp
theorem cs_lst (a b : Nat → Int) (nb na k : Nat) : cs a b nb na k = ml (lst a na) (ext b nb) k := cs_ml a b nb na k
/-- The product of two polynomials, told once for the program and for the document. -/
theorem products {f : Int} (ft : Ft f) (hR : ∀ m, m ≤ 10 → RootOf f m (rt f m)) (F G : Nat → Int) (n k : Nat) (hF : ∀ t, 0 ≤ F t ∧ F t < M f) (hG : ∀ t, 0 ≤ G t ∧ G t < M f) (hnk : n + k ≤ 1025) (hn : n ≤ 1024) (hk : k ≤ 1024) :
    ∃ (P : Nat → Int) (L : Nat), (∀ t, 0 ≤ P t ∧ P t < M f) ∧ L ≤ n + k ∧ (0 < L → P (L - 1) ≠ 0) ∧ (∀ i, Eqm (M f) (ext P L i) (ml (lst F n) (ext G k) i)) ∧
      (∀ (A B : Option Addr) (c d : Nat) (w : World), Tabs w → ElemsAt w A (lst F n) → ElemsAt w B (lst G k) → Calls Tryd.prog 14 #[.int .u8 f, .slice A n c, .slice B k d] w (MOut P L w)) ∧
      (∀ (A B : Option Addr) (c d : Nat) (w : World), n ≤ c → k ≤ d → ElemsAt w A (lst F n) → ElemsAt w B (lst G k) → Calls Tryd.prog 17 #[.int .i64 f, .slice A n c, .slice B k d] w (ROut P L w)) := by
  have hmul := fun A B c d w hT hA hB => pmul_any ft hR F G n k A B c d (lim_f (f := f) hF) (lim_f (f := f) hG) (by omega) (by omega) w hT hA hB
  rw [rd_same hF, rd_same hG] at hmul
  have hla := tl_le F n
  have hlb := tl_le G k
  by_cases z : tl F n = 0 ∨ tl G k = 0
  · refine ⟨fun _ => 0, 0, fun t => ⟨Int.le_refl _, M_pos f⟩, by omega, fun h => absurd h (by omega), fun i => ?_, fun A B c d w hT hA hB => (hmul A B c d w hT hA hB).mono ?_, fun A B c d w hc hd hA hB => rproduct_none f F G n k z (lim_f (f := f) hF) (lim_f (f := f) hG) (by omega) (by omega) A B c d hc hd w hA hB⟩
    · rw [ext_far _ (Nat.zero_le _)]
      rcases z with z | z
      · rw [← ml_tl F _ n, z]; rfl
      · have e : ext G k = fun _ => 0 := by funext t; rw [← ext_tl, z, ext_far _ (Nat.zero_le _)]
        rw [e, ml_nil]; rfl
    · rintro e w' (⟨_, h⟩ | ⟨h, _⟩ | ⟨h, _⟩)
      · exact h
      · omega
      · omega
  · refine ⟨cv f F G (tl G k) (tl F n), tl (cv f F G (tl G k) (tl F n)) (tl F n + tl G k - 1), cv_in f F G _ _, ?_, fun h => tl_last _ _ h, fun i => ?_, fun A B c d w hT hA hB => (hmul A B c d w hT hA hB).mono ?_, fun A B c d w hc hd hA hB => rproduct_some f F G n k (by omega) (by omega) hF hG (by omega) (by omega) A B c d hc hd w hA hB⟩
    · have := tl_le (cv f F G (tl G k) (tl F n)) (tl F n + tl G k - 1)
      omega
    · rw [ext_tl]
      have e : ext (cv f F G (tl G k) (tl F n)) (tl F n + tl G k - 1) i = cv f F G (tl G k) (tl F n) i := by
        by_cases h : i < tl F n + tl G k - 1
        · exact ext_at _ h
        · rw [ext_far _ (by omega), cv_far f (by omega)]
      rw [e]
      unfold cv
      refine (eqm_mod _ _).trans' ?_
      have e2 : ext G (tl G k) = ext G k := by funext t; exact ext_tl G k t
      rw [cs_lst, e2, ml_tl]
      rfl
    · rintro e w' (⟨h, _⟩ | ⟨h, _⟩ | ⟨_, h⟩)
      · omega
      · omega
      · exact h
/-- The chapter's example. -/
theorem pawake (w : World) (hT : Tabs w) : Calls Tryd.prog 10 #[] w fun e w' => e = .returned (.bool true) ∧ Below w.heap.size w w' := by
  have hv := Lib.hid (fun A B c d w hT hA hB => pmul_any ft_one root_one (fun _ => 1) (fun _ => 1) 2 2 A B c d (fun _ _ => (show (0 : Int) ≤ 1 ∧ (1 : Int) < 340282366920938463463374607431768211456 by decide)) (fun _ _ => (show (0 : Int) ≤ 1 ∧ (1 : Int) < 340282366920938463463374607431768211456 by decide)) (by omega) (by omega) w hT hA hB)
  have e0 : rd 1 (fun _ => 1) = fun _ => 1 := by funext t; show redu 1 1 = 1; decide +kernel
  have e1 : tl (fun _ => (1 : Int)) 2 = 2 := by decide +kernel
  have e2 : lst (cv 1 (fun _ => 1) (fun _ => 1) 2 2) 3 = [1, 2, 1] := by decide +kernel
  have e3 : tl (cv 1 (fun _ => 1) (fun _ => 1) 2 2) (2 + 2 - 1) = 3 := by decide +kernel
  rw [e0, e1] at hv
  unfold MulOut MOut at hv
  rw [e3] at hv
  go_enter Tryd.func10, Tryd.ntmps10
  go_wp2_with fail
  have k0 : ∀ w : World, Row (w.alloc (.cells #[.int .u64 1, .int .u64 0, .int .u64 1, .int .u64 0] 25 (0, 0))) w.heap.size (lst (fun _ => 1) 2) := fun w => alloc_at rfl
  have ka := k0 w
  have kb := k0 (w.alloc (.cells #[.int .u64 1, .int .u64 0, .int .u64 1, .int .u64 0] 25 (0, 0)))
  have hb1 := ((Below.refl w.heap.size w).alloc (Nat.le_refl _) (.cells #[.int .u64 1, .int .u64 0, .int .u64 1, .int .u64 0] 25 (0, 0))).alloc (by simp) (.cells #[.int .u64 1, .int .u64 0, .int .u64 1, .int .u64 0] 25 (0, 0))
  rw [show (w.alloc (.cells #[.int .u64 1, .int .u64 0, .int .u64 1, .int .u64 0] 25 (0, 0))).heap.size = w.heap.size + 1 by simp] at kb
  refine (hv.out _ _ _ _ _ (hT.up hb1) (ka.alloc _).elems kb.elems).mono ?_
  rintro e w1 (⟨h, _⟩ | ⟨h, _⟩ | ⟨_, A4, rfl, hb, hL⟩)
  · omega
  · omega
  · have hb2 := below_next hb1 (by simp; omega) hb
    rcases hL with ⟨h, _⟩ | ⟨_, g, hg, rfl, hr⟩
    · omega
    · rw [e2] at hr
      have a0 : w1.cell? ⟨g, 2, none⟩ = some (.int .u64 2) := hr.lo (k := 1) (by decide)
      have a1 : w1.cell? ⟨g, 3, none⟩ = some (.int .u64 0) := hr.hi (k := 1) (by decide)
      clear hv k0 ka kb hb1 hr hb hg e0 e1 e2 e3
      go_wp2
      go_ret
      exact ⟨rfl, hb2⟩
end Go.Proofs.YtbpedpkhhjfhjaaDoor
