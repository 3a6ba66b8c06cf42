/-
  Mathematics of polynomials: what goes into what; products of products.
-/
import Derived.Test.YtailpfbdanhpmaaDoorPoMath
namespace Go.Proofs.YtailpfbdanhpmaaDoor
open F Flow Go.RowKit
set_option linter.unusedVariables false

/-- One place up. -/
def sh (g : Nat → Int) : Nat → Int
  | 0 => 0
  | k + 1 => g k
/-- A list's product with a polynomial. -/
def ml : List Int → (Nat → Int) → Nat → Int
  | [], _ => fun _ => 0
  | c :: cs, d => fun k => c * d k + sh (ml cs d) k
def padd : List Int → List Int → List Int
  | [], q => q
  | c :: p, [] => c :: p
  | c :: p, e :: q => (c + e) :: padd p q
theorem sh_add (g h : Nat → Int) : sh (fun k => g k + h k) = fun k => sh g k + sh h k := by
  funext k
  cases k <;> simp [sh]
theorem sh_smul (c : Int) (g : Nat → Int) : sh (fun k => c * g k) = fun k => c * sh g k := by
  funext k
  cases k <;> simp [sh]
theorem sh_zero : sh (fun _ => 0) = fun _ => 0 := by
  funext k
  cases k <;> rfl
theorem sh_eqm {m : Int} {g h : Nat → Int} (e : ∀ k, Eqm m (g k) (h k)) : ∀ k, Eqm m (sh g k) (sh h k)
  | 0 => rfl
  | k + 1 => e k
theorem ml_padd : ∀ (p q : List Int) (d : Nat → Int) (k : Nat), ml (padd p q) d k = ml p d k + ml q d k
  | [], q, d, k => by simp [padd, ml]
  | c :: p, [], d, k => by simp [padd, ml]
  | c :: p, e :: q, d, k => by
    have h : ml (padd p q) d = fun k => ml p d k + ml q d k := funext (ml_padd p q d)
    show (c + e) * d k + sh (ml (padd p q) d) k = (c * d k + sh (ml p d) k) + (e * d k + sh (ml q d) k)
    rw [h, sh_add, Int.add_mul]
    show _ + (sh (ml p d) k + sh (ml q d) k) = _
    omega
theorem ml_map (c : Int) : ∀ (p : List Int) (d : Nat → Int) (k : Nat), ml (p.map (c * ·)) d k = c * ml p d k
  | [], d, k => by simp [ml]
  | e :: p, d, k => by
    have h : ml (p.map (c * ·)) d = fun k => c * ml p d k := funext (ml_map c p d)
    show (c * e) * d k + sh (ml (p.map (c * ·)) d) k = c * (e * d k + sh (ml p d) k)
    rw [h, sh_smul, Int.mul_add, Int.mul_assoc]
theorem ml_snoc (c : Int) (d : Nat → Int) : ∀ (l : List Int) (k : Nat), ml (l ++ [c]) d k = ml l d k + c * (if l.length ≤ k then d (k - l.length) else 0)
  | [], k => by
    show c * d k + sh (fun _ => 0) k = 0 + c * (if 0 ≤ k then d (k - 0) else 0)
    rw [sh_zero]; simp
  | a :: l, k => by
    have h : ml (l ++ [c]) d = fun k => ml l d k + c * (if l.length ≤ k then d (k - l.length) else 0) := funext (ml_snoc c d l)
    show a * d k + sh (ml (l ++ [c]) d) k = (a * d k + sh (ml l d) k) + c * (if l.length + 1 ≤ k then d (k - (l.length + 1)) else 0)
    rw [h, sh_add]
    cases k with
    | zero => simp [sh]
    | succ k =>
      show a * d (k + 1) + (ml l d k + c * (if l.length ≤ k then d (k - l.length) else 0)) = _
      rw [show k + 1 - (l.length + 1) = k - l.length by omega]
      by_cases e : l.length ≤ k
      · rw [if_pos e, if_pos (by omega)]; simp only [sh]; omega
      · rw [if_neg e, if_neg (by omega)]; simp only [sh]; omega
theorem ml_far {d : Nat → Int} {n : Nat} (hd : ∀ k, n ≤ k → d k = 0) : ∀ (l : List Int) (k : Nat), l.length + n ≤ k + 1 → (l = [] ∨ l.length + n ≤ k + 1) → ml l d k = 0
  | [], k, _, _ => rfl
  | a :: l, k, h, _ => by
    rw [List.length_cons] at h
    show a * d k + sh (ml l d) k = 0
    rw [hd k (by omega), Int.mul_zero, Int.zero_add]
    cases k with
    | zero => rfl
    | succ k => exact ml_far hd l k (by omega) (.inr (by omega))
theorem ml_eqm {m : Int} {d e : Nat → Int} (h : ∀ k, Eqm m (d k) (e k)) : ∀ (l : List Int) (k : Nat), Eqm m (ml l d k) (ml l e k)
  | [], k => rfl
  | a :: l, k => (Eqm.mul rfl (h k)).add (sh_eqm (ml_eqm h l) k)
/-- All that comes of a polynomial by sums and products. -/
inductive Idl (m : Int) (d : Nat → Int) : (Nat → Int) → Prop
  | base : Idl m d d
  | zero : Idl m d (fun _ => 0)
  | add {x y : Nat → Int} : Idl m d x → Idl m d y → Idl m d (fun k => x k + y k)
  | smul (c : Int) {x : Nat → Int} : Idl m d x → Idl m d (fun k => c * x k)
  | shift {x : Nat → Int} : Idl m d x → Idl m d (sh x)
  | eqm {x y : Nat → Int} : Idl m d x → (∀ k, Eqm m (x k) (y k)) → Idl m d y
theorem Idl.trans {m : Int} {d x y : Nat → Int} (h : Idl m d x) (h2 : Idl m x y) : Idl m d y := by
  induction h2 with
  | base => exact h
  | zero => exact .zero
  | add _ _ a b => exact .add a b
  | smul c _ a => exact .smul c a
  | shift _ a => exact .shift a
  | eqm _ e a => exact .eqm a e
theorem idl_ml {m : Int} {x : Nat → Int} : ∀ q : List Int, Idl m x (ml q x)
  | [] => .zero
  | c :: q => .add (.smul c .base) (.shift (idl_ml q))
theorem idl_rep {m : Int} {d z : Nat → Int} (h : Idl m d z) : ∃ q : List Int, ∀ k, Eqm m (z k) (ml q d k) := by
  induction h with
  | base => exact ⟨[1], fun k => by show Eqm m (d k) (1 * d k + sh (fun _ => 0) k); rw [sh_zero, Int.one_mul, Int.add_zero]; rfl⟩
  | zero => exact ⟨[], fun k => rfl⟩
  | add _ _ a b =>
    obtain ⟨p, hp⟩ := a
    obtain ⟨q, hq⟩ := b
    exact ⟨padd p q, fun k => by rw [ml_padd]; exact (hp k).add (hq k)⟩
  | smul c _ a =>
    obtain ⟨p, hp⟩ := a
    exact ⟨p.map (c * ·), fun k => by rw [ml_map]; exact Eqm.mul rfl (hp k)⟩
  | shift _ a =>
    obtain ⟨p, hp⟩ := a
    exact ⟨0 :: p, fun k => by show Eqm m _ (0 * d k + sh (ml p d) k); rw [Int.zero_mul, Int.zero_add]; exact sh_eqm hp k⟩
  | eqm _ e a =>
    obtain ⟨p, hp⟩ := a
    exact ⟨p, fun k => (e k).symm'.trans' (hp k)⟩
/-- A product of lower degree than a factor (whose highest coefficient has an inverse) is nought. -/
theorem ml_deg {m v : Int} {d : Nat → Int} {n : Nat} (hd : ∀ k, n < k → d k = 0) (hv : Eqm m (d n * v) 1) : ∀ (L : Nat) (u : List Int), u.length = L → (∀ k, n ≤ k → Eqm m (ml u d k) 0) → ∀ k, Eqm m (ml u d k) 0
  | 0, u, hL, _, k => by
    rw [List.eq_nil_of_length_eq_zero hL]
    rfl
  | L + 1, u, hL, h, k => by
    rcases List.eq_nil_or_concat u with rfl | ⟨u', c, rfl⟩
    · cases hL
    · rw [List.concat_eq_append] at *
      have hl : u'.length = L := by simpa using hL
      have h0 := h (L + n) (by omega)
      rw [ml_snoc, ml_far (n := n + 1) (fun k hk => hd k (by omega)) u' (L + n) (by omega) (.inr (by omega)), hl, if_pos (by omega), show L + n - L = n by omega, Int.zero_add] at h0
      have hc : Eqm m c 0 := by
        have h1 := h0.mul (rfl : Eqm m v v)
        rw [Int.mul_assoc, Int.zero_mul] at h1
        have h2 : Eqm m (c * (d n * v)) (c * 1) := Eqm.mul rfl hv
        rw [Int.mul_one] at h2
        exact h2.symm'.trans' h1
      have e : ∀ k, Eqm m (ml (u' ++ [c]) d k) (ml u' d k) := fun k => by
        rw [ml_snoc]
        have := (Eqm.rfl' (m := m) (a := ml u' d k)).add (hc.mul (Eqm.rfl' (m := m) (a := if u'.length ≤ k then d (k - u'.length) else 0)))
        rwa [Int.zero_mul, Int.add_zero] at this
      exact (e k).trans' (ml_deg hd hv L u' hl (fun k hk => (e k).symm'.trans' (h k hk)) k)
/-- Noughts behind. -/
def ext (F : Nat → Int) (n i : Nat) : Int := if i < n then F i else 0
theorem ext_far (F : Nat → Int) {n k : Nat} (h : n ≤ k) : ext F n k = 0 := by unfold ext; rw [if_neg (by omega)]
theorem ext_at (F : Nat → Int) {n k : Nat} (h : k < n) : ext F n k = F k := by unfold ext; rw [if_pos h]
theorem cs_ml (a b : Nat → Int) (nb : Nat) : ∀ na k, cs a b nb na k = ml ((List.range na).map a) (ext b nb) k
  | 0, k => rfl
  | i + 1, k => by
    rw [List.range_succ, List.map_append, List.map_singleton, ml_snoc, cs, cs_ml a b nb i k]
    congr 1
    simp only [List.length_map, List.length_range]
    unfold ext
    by_cases h1 : i ≤ k
    · rw [if_pos h1]
      by_cases h2 : k < i + nb
      · rw [if_pos ⟨h1, h2⟩, if_pos (by omega)]
      · rw [if_neg (by omega), if_neg (by omega), Int.mul_zero]
    · rw [if_neg (by omega), if_neg h1, Int.mul_zero]
/-- How long a polynomial is, is told by its coefficients. -/
theorem tl_uniq {E : Nat → Int} {T S : Nat} (h1 : ∀ k, T ≤ k → E k = 0) (h2 : 0 < T → E (T - 1) ≠ 0) (h3 : ∀ k, S ≤ k → E k = 0) (h4 : 0 < S → E (S - 1) ≠ 0) : T = S := by
  rcases Nat.lt_trichotomy T S with h | h | h
  · exact absurd (h1 (S - 1) (by omega)) (h4 (by omega))
  · exact h
  · exact absurd (h3 (T - 1) (by omega)) (h2 (by omega))
theorem ext_tl (F : Nat → Int) (n k : Nat) : ext F (tl F n) k = ext F n k := by
  unfold ext
  by_cases h : k < tl F n
  · rw [if_pos h, if_pos (Nat.lt_of_lt_of_le h (tl_le F n))]
  · rw [if_neg h]
    by_cases h2 : k < n
    · rw [if_pos h2, tl_zero_of F n k (by omega) h2]
    · rw [if_neg h2]
theorem tl_top {F : Nat → Int} {n : Nat} (h : 0 < tl F n) : ext F (tl F n) (tl F n - 1) ≠ 0 := by
  rw [ext_at F (by omega)]
  exact tl_last F n h
/-- Two lists without noughts at the end that have the same coefficients are the same. -/
theorem tl_same {F G : Nat → Int} {n k : Nat} (h : ∀ i, ext F n i = ext G k i) : tl F n = tl G k ∧ lst F (tl F n) = lst G (tl G k) := by
  have e : tl F n = tl G k := by
    refine tl_uniq (E := ext F n) (fun i hi => ?_) (fun h0 => ?_) (fun i hi => ?_) (fun h0 => ?_)
    · rw [← ext_tl]; exact ext_far F hi
    · rw [← ext_tl]; exact tl_top h0
    · rw [h, ← ext_tl]; exact ext_far G hi
    · rw [h, ← ext_tl]; exact tl_top h0
  refine ⟨e, ?_⟩
  rw [← e]
  refine lst_congr (fun p hp => ?_)
  have := h p
  rw [← ext_tl F n, ← ext_tl G k, ext_at F hp, ext_at G (by omega)] at this
  exact this
end Go.Proofs.YtailpfbdanhpmaaDoor
