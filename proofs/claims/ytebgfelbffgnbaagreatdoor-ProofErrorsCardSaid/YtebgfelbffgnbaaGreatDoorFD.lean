import Derived.Test.YtebgfelbffgnbaaGreatDoorFC
import Derived.Test.YtebgfelbffgnbaaGreatDoorFB
import Derived.Deep.DeepCutAuto
import Derived.Deep.CutBlock
/-
  Inverses of a list, in new memory; mathematics of values at a point.
-/
namespace Go.Proofs.YtebgfelbffgnbaaGreatDoor
open Go.RowKit F Flow
set_option linter.unusedVariables false
set_option linter.unusedSimpArgs false
attribute [local go_sem] eql_elem

/-- So many powers of two numbers, of one degree. -/
def sq (u x : Int) : Nat → Int
  | 0 => 0
  | m + 1 => u * sq u x m + u * x ^ m
/-- A root's share of a value. -/
def shr (W x : Int) (N i : Nat) : Int := pf x (fun q => (W ^ i) ^ ((N - q) % N)) N
end Go.Proofs.YtebgfelbffgnbaaGreatDoor

/-
  Coefficients of values: at the roots they are the values. Mathematics.
-/
namespace Go.Proofs.YtebgfelbffgnbaaGreatDoor
open Go.RowKit F Flow
set_option linter.unusedVariables false

end Go.Proofs.YtebgfelbffgnbaaGreatDoor

/-
  Weights of values at the powers of a root.
-/
namespace Go.Proofs.YtebgfelbffgnbaaGreatDoor
open Go.RowKit F Flow
set_option linter.unusedVariables false
set_option linter.unusedSimpArgs false
attribute [local go_sem] eql_elem

/-- What Weights answers. -/
def WtOut (f : Int) (k : Nat) (x : Int) (N : Nat) (w : World) (e : Ending) (w' : World) : Prop :=
  ((∃ i, i < N ∧ redu f x = power (mul f) (rt f k) i) ∧ e = .returned (.tuple #[.slice none 0 0, .int .i64 12]) ∧ Below w.heap.size w w') ∨
  ∃ g Wt, (∀ i, i < N → redu f x ≠ power (mul f) (rt f k) i) ∧ e = .returned (.tuple #[.slice (some ⟨g, 0, none⟩) N N, .int .i64 0]) ∧ Below w.heap.size w w' ∧ Row w' g (lst Wt N) ∧ (∀ t, 0 ≤ Wt t ∧ Wt t < M f) ∧
    ∀ v, 0 ≤ v ∧ v < M f → mul f (N : Int) v = 1 → ∀ i, i < N → Eqm (M f) (Wt i) (v * shr (rt f k) (redu f x) N i)
/-- What is kept of the world. -/
structure WtK (w : World) (x : Int) (P D : Nat → Int) (N gq ga : Nat) (wr : World) : Prop where
  below : Below w.heap.size w wr
  p : Row wr gq (lst P N)
  d : Row wr ga (lst D N)
  x : Holds wr w.heap.size x
theorem WtK.up {w : World} {x : Int} {P D : Nat → Int} {N gq ga : Nat} {w1 w2 : World} (h : WtK w x P D N gq ga w1) (hb : Below w1.heap.size w1 w2) : WtK w x P D N gq ga w2 :=
  ⟨below_next h.below h.below.size hb, h.p.up hb, h.d.up hb, h.x.up hb⟩
theorem WtK.put {w : World} {x : Int} {P D : Nat → Int} {N gq ga : Nat} {w1 : World} (h : WtK w x P D N gq ga w1) (hg : w.heap.size < ga) (hne : gq ≠ ga) {j : Nat} (hj : j < N) (z : Int) {D' : Nat → Int} (e : (lst D N).set j z = lst D' N) :
    WtK w x P D' N gq ga ((w1.setCell ⟨ga, j * 2, none⟩ (.int .u64 (lo z))).setCell ⟨ga, j * 2 + 1, none⟩ (.int .u64 (hi z))) :=
  ⟨(h.below.setCell (p := ⟨ga, j * 2, none⟩) (Nat.le_of_lt hg) _).setCell (p := ⟨ga, j * 2 + 1, none⟩) (Nat.le_of_lt hg) _, h.p.far hne, by rw [← e]; exact h.d.set (by rw [lst_length]; exact hj) z, h.x.far' (by omega)⟩
end Go.Proofs.YtebgfelbffgnbaaGreatDoor

/-
  Mathematics of the polynomial through points.
-/
namespace Go.Proofs.YtebgfelbffgnbaaGreatDoor
open F Flow Go.RowKit
set_option linter.unusedVariables false

/-- How far a number is from so many, all of these multiplied. -/
def apart (X : Nat → Int) (t : Int) : Nat → Int
  | 0 => 1
  | i + 1 => apart X t i * (t - X i)
theorem apart_zero (X : Nat → Int) {t : Int} : ∀ {i j : Nat}, j < i → X j = t → apart X t i = 0
  | 0, j, h, _ => absurd h (Nat.not_lt_zero _)
  | i + 1, j, h, e => by
    rw [apart]
    by_cases c : j = i
    · subst c; rw [e, Int.sub_self, Int.mul_zero]
    · rw [apart_zero X (i := i) (j := j) (by omega) e, Int.zero_mul]
theorem one_not_zero {f : Int} (ft : Ft f) : ¬ Eqm (M f) 1 0 := by
  unfold Eqm
  rcases ft.one2 with rfl | rfl <;> decide
/-- Through so many points. -/
structure ThI (f : Int) (X Y : Nat → Int) (P : Nat → Int) (np : Nat) (Z : Nat → Int) (i : Nat) : Prop where
  p : ∀ t, 0 ≤ P t ∧ P t < M f
  z : ∀ t, 0 ≤ Z t ∧ Z t < M f
  pTop : 0 < np → P (np - 1) ≠ 0
  pLen : np ≤ i
  zTop : Z i = 1
  zero : ∀ t, Eqm (M f) (pf t Z (i + 1)) (apart X t i)
  vals : ∀ j, j < i → Eqm (M f) (pf (X j) P np) (Y j)
  far : ∀ j, j < i → ¬ Eqm (M f) (apart X (X j) j) 0
/-- The factor of one more point. -/
def wn (f x : Int) (t : Nat) : Int := if t = 0 then neg f x else 1
theorem ext_pf (t : Int) (F : Nat → Int) (n : Nat) : ∀ N, n ≤ N → pf t (ext F n) N = pf t F n := fun N h => by
  rw [pf_cut N h (fun k h1 _ => ext_far F h1)]
  have : ∀ k, k ≤ n → pf t (ext F n) k = pf t F k := fun k => by
    induction k with
    | zero => intro _; rfl
    | succ k ih => intro h; rw [pf, pf, ih (by omega), ext_at F (by omega)]
  exact this n (Nat.le_refl _)
/-- A sum's value. -/
theorem av_pf {f : Int} {P S : Nat → Int} (hP : ∀ t, 0 ≤ P t ∧ P t < M f) (hS : ∀ t, 0 ≤ S t ∧ S t < M f) (n k : Nat) (t : Int) : Eqm (M f) (pf t (av f P S n k) (max n k)) (pf t P n + pf t S k) := by
  have h1 : Eqm (M f) (pf t (av f P S n k) (max n k)) (pf t (fun i => ext P n i + ext S k i) (max n k)) := pf_congr Eqm.rfl' _ (fun i _ => add_eqm f _ _ (ext_in hP n i) (ext_in hS k i))
  rw [pf_add, ext_pf t P n _ (by omega), ext_pf t S k _ (by omega)] at h1
  exact h1
theorem sub_redu_l (f a b : Int) : sub f a b = sub f (redu f a) b := by unfold sub; rw [redu_redu]
theorem neg_eqm (f x : Int) : Eqm (M f) (neg f x) (- redu f x) := by unfold neg; exact eqm_mod _ _
theorem ThI.step {f : Int} (ft : Ft f) {xs ys : Nat → Int} {P Z : Nat → Int} {np i : Nat} (h : ThI f (rd f xs) (rd f ys) P np Z i) {A part l : Int} (hA : A = pf (rd f xs i) Z (i + 1) % M f) (hm : mul f A part = 1) (hpt : 0 ≤ part ∧ part < M f)
    (hl : l = mul f (sub f (ys i) (pf (rd f xs i) P np % M f)) part) {S : Nat → Int} {ns : Nat} (hS : S = fun t => mul f (Z t) l) (hns : ns = tl S (i + 1)) :
    ThI f (rd f xs) (rd f ys) (av f P S np ns) (tl (av f P S np ns) (max np ns)) (cv f Z (wn f (xs i)) 2 (i + 1)) (i + 1) := by
  have hX := rd_in f xs
  have hY := rd_in f ys
  have hSin : ∀ t, 0 ≤ S t ∧ S t < M f := fun t => by rw [hS]; exact mul_bound f _ _
  have hnsl : ns ≤ i + 1 := by rw [hns]; exact tl_le _ _
  have hlin : 0 ≤ l ∧ l < M f := by rw [hl]; exact mul_bound f _ _
  have hAin : 0 ≤ A ∧ A < M f := by rw [hA]; exact mod_in f _
  have hpl := h.pLen
  have hval : ∀ t, Eqm (M f) (pf t (av f P S np ns) (tl (av f P S np ns) (max np ns))) (pf t P np + l * apart (rd f xs) t i) := fun t => by
    rw [pf_tl]
    refine (av_pf h.p hSin np ns t).trans' (Eqm.rfl'.add ?_)
    rw [hns, pf_tl]
    have h1 : Eqm (M f) (pf t S (i + 1)) (pf t (fun k => l * Z k) (i + 1)) := pf_congr Eqm.rfl' _ (fun k _ => by rw [hS, Int.mul_comm l]; exact mul_eqm f _ _ (h.z k) hlin)
    rw [pf_smul] at h1
    exact h1.trans' (Eqm.mul rfl (h.zero t))
  refine ⟨av_in f _ _ _ _, cv_in f _ _ _ _, fun h0 => tl_last _ _ h0, ?_, ?_, fun t => ?_, fun j hj => ?_, fun j hj => ?_⟩
  · have := tl_le (av f P S np ns) (max np ns)
    omega
  · unfold cv
    have e : cs Z (wn f (xs i)) 2 (i + 1) (i + 1) = Z i * wn f (xs i) 1 := cs_top (na := i + 1) (nb := 2) (by omega) (by omega)
    rw [e, h.zTop]
    have h2 : 1 < M f := by rcases ft.one2 with rfl | rfl <;> decide
    rw [show wn f (xs i) 1 = 1 from rfl]
    exact Int.emod_eq_of_lt (by decide) h2
  · have h1 : Eqm (M f) (pf t (cv f Z (wn f (xs i)) 2 (i + 1)) (i + 1 + 1)) (pf t (cs Z (wn f (xs i)) 2 (i + 1)) (i + 1 + 1)) := pf_congr Eqm.rfl' _ (fun k _ => eqm_mod _ _)
    rw [pf_cs t Z (wn f (xs i)) 2 (i + 1) (i + 1 + 1) (by omega) (.inr (by omega)) (fun _ => trivial)] at h1
    refine h1.trans' ?_
    rw [apart]
    refine (h.zero t).mul ?_
    have e : pf t (wn f (xs i)) 2 = neg f (xs i) + t := by simp [pf, wn, Int.pow_succ]
    rw [e]
    have h3 := (neg_eqm f (xs i)).add (Eqm.rfl' (m := M f) (a := t))
    have e2 : - redu f (xs i) + t = t - rd f xs i := by show _ = t - redu f (xs i); omega
    rw [e2] at h3
    exact h3
  · refine (hval _).trans' ?_
    by_cases c : j = i
    · subst c
      have hB := mod_in f (pf (rd f xs j) P np)
      have h1 : Eqm (M f) l ((rd f ys j - pf (rd f xs j) P np) * part) := by
        rw [hl]
        refine (mul_eqm f _ _ (sub_bound f _ _) hpt).trans' (Eqm.mul ?_ rfl)
        rw [sub_redu_l]
        exact (sub_eqm f _ _ (hY j) hB).trans' (Eqm.sub rfl (eqm_mod _ _))
      have h2 : Eqm (M f) (apart (rd f xs) (rd f xs j) j * part) 1 := by
        have h3 := mul_eqm f A part hAin hpt
        rw [hm] at h3
        have h4 : Eqm (M f) A (apart (rd f xs) (rd f xs j) j) := by rw [hA]; exact (eqm_mod _ _).trans' (h.zero _)
        exact (h4.symm'.mul rfl).trans' h3.symm'
      have h5 := h1.mul (Eqm.rfl' (m := M f) (a := apart (rd f xs) (rd f xs j) j))
      have e : (rd f ys j - pf (rd f xs j) P np) * part * apart (rd f xs) (rd f xs j) j = (rd f ys j - pf (rd f xs j) P np) * (apart (rd f xs) (rd f xs j) j * part) := by rw [Int.mul_assoc, Int.mul_comm part]
      rw [e] at h5
      have h6 := h5.trans' (Eqm.mul rfl h2)
      rw [Int.mul_one] at h6
      have h7 := (Eqm.rfl' (m := M f) (a := pf (rd f xs j) P np)).add h6
      have e2 : pf (rd f xs j) P np + (rd f ys j - pf (rd f xs j) P np) = rd f ys j := by omega
      rw [e2] at h7
      exact h7
    · rw [apart_zero (rd f xs) (i := i) (j := j) (by omega) rfl, Int.mul_zero, Int.add_zero]
      exact h.vals j (by omega)
  · by_cases c : j = i
    · subst c
      intro h0
      have h3 := mul_eqm f A part hAin hpt
      rw [hm] at h3
      have h4 : Eqm (M f) A 0 := by rw [hA]; exact (eqm_mod _ _).trans' ((h.zero _).trans' h0)
      have h5 := h4.mul (Eqm.rfl' (m := M f) (a := part))
      rw [Int.zero_mul] at h5
      exact one_not_zero ft (h3.trans' h5)
    · exact h.far j (by omega)
end Go.Proofs.YtebgfelbffgnbaaGreatDoor
