/-
  Products and sums of polynomials, told by their values.
-/
import Derived.Test.YtailpfbdanhpmaaDoorPoX
import Derived.Test.YtailpfbdanhpmaaDoorPoF
namespace Go.Proofs.YtailpfbdanhpmaaDoor
open Go.RowKit F Flow
set_option linter.unusedVariables false
set_option linter.unusedSimpArgs false

/-- A polynomial without noughts at the end, of elements. -/
structure Poly (f : Int) (P : Nat → Int) (L : Nat) : Prop where
  p : ∀ t, 0 ≤ P t ∧ P t < M f
  top : 0 < L → P (L - 1) ≠ 0
theorem mul_val {f : Int} (ft : Ft f) (hR : ∀ m, m ≤ 10 → RootOf f m (rt f m)) (F G : Nat → Int) (n k : Nat) (hF : Lim F n) (hG : Lim G k) (hnk : n + k ≤ 1025) (hn : n ≤ 1024) (hk : k ≤ 1024) (A B : Option Addr) (c d : Nat) (w : World) (hT : Tabs w) (hA : ElemsAt w A (lst F n)) (hB : ElemsAt w B (lst G k)) :
    Calls Tryd.prog 25 #[.int .u8 f, .slice A n c, .slice B k d] w fun e w' => ∃ P L, Poly f P L ∧ L ≤ n + k - 1 ∧ (n = 0 → L = 0) ∧ (k = 0 → L = 0) ∧ (∀ t, Eqm (M f) (pf t P L) (pf t (rd f F) n * pf t (rd f G) k)) ∧ MOut P L w e w' := by
  have hla := tl_le (rd f F) n
  have hlb := tl_le (rd f G) k
  refine (pmul_any ft hR F G n k A B c d hF hG (by omega) (by omega) w hT hA hB).mono ?_
  rintro e w' (⟨h0, h⟩ | ⟨h0, _⟩ | ⟨h0, h⟩)
  · refine ⟨fun _ => 0, 0, ⟨fun t => ⟨Int.le_refl _, M_pos f⟩, fun h => absurd h (Nat.lt_irrefl _)⟩, by omega, fun _ => rfl, fun _ => rfl, fun t => ?_, h⟩
    rcases h0 with h0 | h0
    · rw [← pf_tl t (rd f F) n, h0, pf, pf, Int.zero_mul]; rfl
    · rw [← pf_tl t (rd f G) k, h0, pf, pf, Int.mul_zero]; rfl
  · omega
  · refine ⟨_, _, ⟨cv_in f _ _ _ _, fun h0 => tl_last _ _ h0⟩, ?_, fun hn0 => by omega, fun hk0 => by omega, fun t => ?_, h⟩
    · have := tl_le (cv f (rd f F) (rd f G) (tl (rd f G) k) (tl (rd f F) n)) (tl (rd f F) n + tl (rd f G) k - 1)
      omega
    · rw [pf_tl]
      have h1 : Eqm (M f) (pf t (cv f (rd f F) (rd f G) (tl (rd f G) k) (tl (rd f F) n)) (tl (rd f F) n + tl (rd f G) k - 1)) (pf t (cs (rd f F) (rd f G) (tl (rd f G) k) (tl (rd f F) n)) (tl (rd f F) n + tl (rd f G) k - 1)) := pf_congr Eqm.rfl' _ (fun i _ => eqm_mod _ _)
      rw [pf_cs t (rd f F) (rd f G) (tl (rd f G) k) (tl (rd f F) n) _ (by omega) (.inr (by omega)) (fun _ => trivial), pf_tl, pf_tl] at h1
      exact h1
theorem ext_rd (f : Int) (F : Nat → Int) (n i : Nat) : ext (rd f F) n i = redu f (ext F n i) := by
  unfold ext rd
  split
  · rfl
  · exact (redu_zero f).symm
theorem av_rd (f : Int) (F G : Nat → Int) (n k : Nat) : av f F G n k = av f (rd f F) (rd f G) n k := by
  funext i
  unfold av
  rw [ext_rd, ext_rd]
  unfold add
  rw [redu_redu, redu_redu]
theorem add_val {f : Int} (ft : Ft f) (F G : Nat → Int) (n k : Nat) (hF : Lim F n) (hG : Lim G k) (hn : n ≤ 1024) (hk : k ≤ 1024) (A B : Option Addr) (c d : Nat) (w : World) (hA : ElemsAt w A (lst F n)) (hB : ElemsAt w B (lst G k)) :
    Calls Tryd.prog 26 #[.int .u8 f, .slice A n c, .slice B k d] w fun e w' => ∃ P L, Poly f P L ∧ L ≤ max n k ∧ (∀ t, Eqm (M f) (pf t P L) (pf t (rd f F) n + pf t (rd f G) k)) ∧ POut P L w e w' := by
  refine (padd_any ft F G n k A B c d hF hG (by omega) (by omega) w hA hB).mono ?_
  intro e w' h
  refine ⟨av f F G n k, tl (av f F G n k) (max n k), ⟨av_in f _ _ _ _, fun h0 => tl_last _ _ h0⟩, tl_le _ _, fun t => ?_, h⟩
  rw [pf_tl, av_rd]
  exact av_pf (rd_in f F) (rd_in f G) n k t
end Go.Proofs.YtailpfbdanhpmaaDoor
