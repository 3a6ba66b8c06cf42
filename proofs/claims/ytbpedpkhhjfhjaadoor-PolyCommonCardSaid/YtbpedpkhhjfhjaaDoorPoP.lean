/-
  Polynomials: how often one goes into another one.
-/
import Derived.Test.YtbpedpkhhjfhjaaDoorPoJ
import Derived.Deep.DeepCutAuto
import Derived.Deep.CutBlock
namespace Go.Proofs.YtbpedpkhhjfhjaaDoor
open Go.RowKit F Flow
set_option linter.unusedVariables false
set_option linter.unusedSimpArgs false
attribute [local go_sem] eql_elem

/-- How often a polynomial goes into another one, and what is left. -/
structure DivF (f : Int) (a : Nat → Int) (na : Nat) (b : Nat → Int) (nb : Nat) (T : Nat → Int) (nT : Nat) (R : Nat → Int) (nR : Nat) : Prop where
  t : ∀ k, 0 ≤ T k ∧ T k < M f
  r : ∀ k, 0 ≤ R k ∧ R k < M f
  tTop : 0 < nT → T (nT - 1) ≠ 0
  rTop : 0 < nR → R (nR - 1) ≠ 0
  low : nR < nb
  tLen : nT ≤ na
  whole : ∀ k, Eqm (M f) (ext a na k) (ml (lst T nT) (ext b nb) k + ext R nR k)
theorem cs_zeros {a b : Nat → Int} {nb : Nat} (h : ∀ t, a t = 0) : ∀ n k, cs a b nb n k = 0
  | 0, k => rfl
  | n + 1, k => by rw [cs, cs_zeros h n k, h n]; simp
/-- One coefficient of the first factor, changed. -/
theorem cs_change {a a' b : Nat → Int} {nb s : Nat} (h : ∀ t, t ≠ s → a' t = a t) (h0 : a s = 0) : ∀ n k, cs a' b nb n k = cs a b nb n k + if s < n ∧ s ≤ k ∧ k < s + nb then a' s * b (k - s) else 0
  | 0, k => by rw [if_neg (by omega)]; rfl
  | n + 1, k => by
    rw [cs, cs, cs_change h h0 n k]
    by_cases e : n = s
    · subst e
      rw [if_neg (by omega), h0]
      by_cases c : n ≤ k ∧ k < n + nb
      · rw [if_pos c, if_pos c, if_pos ⟨Nat.lt_succ_self n, c⟩]
        simp
      · rw [if_neg c, if_neg c, if_neg (fun x => c x.2)]
        try simp
    · rw [h n e]
      have e2 : (s < n + 1 ∧ s ≤ k ∧ k < s + nb) ↔ (s < n ∧ s ≤ k ∧ k < s + nb) := ⟨fun x => ⟨by omega, x.2⟩, fun x => ⟨by omega, x.2⟩⟩
      simp only [e2]
      exact Int.add_right_comm _ _ _
/-- So many of a row taken away. -/
def amd (f : Int) (A b : Nat → Int) (v : Int) (s i k : Nat) : Int := if s ≤ k ∧ k < s + i then sub f (A k) (mul f v (b (k - s))) else A k
theorem amd_zero (f : Int) (A b : Nat → Int) (v : Int) (s : Nat) : amd f A b v s 0 = A := by
  funext k
  unfold amd
  rw [if_neg (by omega)]
theorem amd_at (f : Int) (A b : Nat → Int) (v : Int) (s i : Nat) : amd f A b v s i (s + i) = A (s + i) := by
  unfold amd
  rw [if_neg (by omega)]
theorem amd_in {f : Int} {A : Nat → Int} (h : ∀ k, 0 ≤ A k ∧ A k < M f) (b : Nat → Int) (v : Int) (s i k : Nat) : 0 ≤ amd f A b v s i k ∧ amd f A b v s i k < M f := by
  unfold amd
  split
  · exact sub_bound f _ _
  · exact h k
theorem amd_set (f : Int) (A b : Nat → Int) (v : Int) (s i N : Nat) : (lst (amd f A b v s i) N).set (s + i) (sub f (A (s + i)) (mul f v (b i))) = lst (amd f A b v s (i + 1)) N := by
  rw [lst_set]
  refine lst_congr (fun p _ => ?_)
  unfold amd
  by_cases e : p = s + i
  · subst e
    rw [if_pos rfl, if_pos (by omega), show s + i - s = i by omega]
  · rw [if_neg e]
    by_cases h : s ≤ p ∧ p < s + i
    · rw [if_pos h, if_pos (by omega)]
    · rw [if_neg h, if_neg (by omega)]
theorem sub_same {f c : Int} (h : 0 ≤ c ∧ c < M f) : sub f c c = 0 := by
  refine in_eq (sub_bound f _ _) ⟨Int.le_refl _, M_pos f⟩ ?_
  have := sub_eqm f c c h h
  rwa [Int.sub_self] at this
theorem mul_back {f c p t : Int} (h : 0 ≤ c ∧ c < M f) (hp : mul f t p = 1) : mul f (mul f c p) t = c := by
  rw [mul_assoc', mul_comm' f p t, hp, mul_one', redu_of_lt h.1 h.2]
/-- What is kept in the loop: so many of the times are known, and what is left. -/
structure DivI (f : Int) (a : Nat → Int) (na : Nat) (b : Nat → Int) (nb nt : Nat) (T Ac : Nat → Int) (j : Nat) : Prop where
  t : ∀ k, 0 ≤ T k ∧ T k < M f
  r : ∀ k, 0 ≤ Ac k ∧ Ac k < M f
  none : ∀ k, k < j → T k = 0
  low : ∀ k, j + nb ≤ k + 1 → k < na → Ac k = 0
  whole : ∀ k, Eqm (M f) (ext a na k) (ext Ac na k + cs T b nb nt k)
theorem DivI.start {f : Int} {a : Nat → Int} {na : Nat} {b : Nat → Int} {nb nt : Nat} (ha : ∀ k, 0 ≤ a k ∧ a k < M f) (hn : na + 1 ≤ nt + nb) : DivI f a na b nb nt (fun _ => 0) a nt :=
  ⟨fun k => ⟨Int.le_refl _, M_pos f⟩, ha, fun k _ => rfl, fun k h1 h2 => by omega, fun k => by rw [cs_zeros (fun _ => rfl), Int.add_zero]; rfl⟩
def tset (T : Nat → Int) (s : Nat) (v : Int) (t : Nat) : Int := if t = s then v else T t
theorem DivI.step {f : Int} {a : Nat → Int} {na : Nat} {b : Nat → Int} {nb nt : Nat} {T Ac : Nat → Int} {s : Nat} {p : Int} (h : DivI f a na b nb nt T Ac (s + 1)) (hb : ∀ k, 0 ≤ b k ∧ b k < M f) (hs : s < nt) (hn : nt + nb = na + 1) (h1 : 1 ≤ nb) (hp : mul f (b (nb - 1)) p = 1) :
    DivI f a na b nb nt (tset T s (mul f (Ac (s + nb - 1)) p)) (amd f Ac b (mul f (Ac (s + nb - 1)) p) s nb) s := by
  obtain ⟨v, hv⟩ : ∃ v, v = mul f (Ac (s + nb - 1)) p := ⟨_, rfl⟩
  have hvin : 0 ≤ v ∧ v < M f := by rw [hv]; exact mul_bound f _ _
  rw [← hv]
  refine ⟨fun k => ?_, amd_in h.r _ _ _ _, fun k hk => ?_, fun k h1' h2 => ?_, fun k => ?_⟩
  · unfold tset
    split
    · exact hvin
    · exact h.t k
  · unfold tset
    rw [if_neg (by omega)]
    exact h.none k (by omega)
  · unfold amd
    by_cases e : k = s + nb - 1
    · rw [if_pos (by omega), show k - s = nb - 1 by omega, e, hv, mul_back (h.r _) hp, sub_same (h.r _)]
    · rw [if_neg (by omega)]
      exact h.low k (by omega) h2
  · refine (h.whole k).trans' ?_
    rw [cs_change (a := T) (a' := tset T s v) (s := s) (fun t ht => by unfold tset; rw [if_neg ht]) (h.none s (by omega)) nt k]
    have e1 : tset T s v s = v := by unfold tset; rw [if_pos rfl]
    rw [e1]
    by_cases c : s ≤ k ∧ k < s + nb
    · rw [if_pos ⟨hs, c⟩, ext_at _ (by omega), ext_at _ (by omega)]
      unfold amd
      rw [if_pos c]
      have e2 := sub_eqm f (Ac k) (mul f v (b (k - s))) (h.r k) (mul_bound f _ _)
      have e3 := mul_eqm f v (b (k - s)) hvin (hb _)
      have e4 : Eqm (M f) (sub f (Ac k) (mul f v (b (k - s)))) (Ac k - v * b (k - s)) := e2.trans' (Eqm.sub rfl e3)
      have e5 := e4.add (Eqm.rfl' (m := M f) (a := cs T b nb nt k + v * b (k - s)))
      have e6 : Ac k - v * b (k - s) + (cs T b nb nt k + v * b (k - s)) = Ac k + cs T b nb nt k := by omega
      rw [e6] at e5
      exact e5.symm'
    · rw [if_neg (fun x => c x.2), Int.add_zero]
      have e2 : ext (amd f Ac b v s nb) na k = ext Ac na k := by
        unfold ext amd
        rw [if_neg c]
      rw [e2]
      rfl
theorem DivI.last {f : Int} {a : Nat → Int} {na : Nat} {b : Nat → Int} {nb nt : Nat} {T Ac : Nat → Int} (h : DivI f a na b nb nt T Ac 0) (h1 : 1 ≤ nb) (hnt : nt ≤ na) : DivF f a na b nb T (tl T nt) Ac (tl Ac na) := by
  have hl : tl Ac na ≤ nb - 1 := by
    by_cases c : nb - 1 ≤ na
    · rw [tl_cut na c (fun k h1 h2 => h.low k (by omega) h2)]
      exact tl_le _ _
    · have := tl_le Ac na
      omega
  refine ⟨h.t, h.r, fun h0 => tl_last _ _ h0, fun h0 => tl_last _ _ h0, by omega, Nat.le_trans (tl_le _ _) hnt, fun k => ?_⟩
  rw [ext_tl, ml_tl, ← cs_lst, Int.add_comm]
  exact h.whole k
end Go.Proofs.YtbpedpkhhjfhjaaDoor
