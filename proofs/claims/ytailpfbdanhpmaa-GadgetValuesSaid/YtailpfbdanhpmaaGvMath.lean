/-
  Mathematics of a gadget's value: a polynomial's value from either end; sums of pairs' products.
-/
import Derived.Test.YtailpfbdanhpmaaPolyAt
namespace Go.Proofs.Ytailpfbdanhpmaa
open F Flow
set_option linter.unusedVariables false

/-- A polynomial's value, as a whole number. -/
def pS (x : Int) : List Int → Int
  | [] => 0
  | c :: cs => c + x * pS x cs
theorem pS_snoc (x c : Int) : ∀ l : List Int, pS x (l ++ [c]) = pS x l + x ^ l.length * c
  | [] => by simp [pS]
  | a :: l => by
    rw [List.cons_append, pS, pS_snoc x c l, pS, List.length_cons, Int.pow_succ, Int.mul_add]
    have e : x ^ l.length * x * c = x * (x ^ l.length * c) := by rw [Int.mul_comm (x ^ l.length) x, Int.mul_assoc]
    rw [e]
    omega
theorem pS_take (x : Int) {p : List Int} {k : Nat} (h : k < p.length) : pS x (p.take (k + 1)) = pS x (p.take k) + x ^ k * p.getD k 0 := by
  rw [List.take_succ_eq_append_getElem h, pS_snoc, List.length_take_of_le (Nat.le_of_lt h)]
  simp [h]
theorem emod_mul (a b m : Int) : a % m * b % m = a * b % m := by rw [Int.mul_emod, Int.emod_emod, ← Int.mul_emod]
theorem mul_emod' (a b m : Int) : a * (b % m) % m = a * b % m := by rw [Int.mul_emod, Int.emod_emod, ← Int.mul_emod]
/-- Elements of a field. -/
def InF (f : Int) (p : List Int) : Prop := ∀ k, k < p.length → 0 ≤ p.getD k 0 ∧ p.getD k 0 < M f
theorem InF.tail {f c : Int} {cs : List Int} (h : InF f (c :: cs)) : InF f cs := fun k hk => by simpa using h (k + 1) (by simpa using hk)
theorem InF.ok {f : Int} {p : List Int} (h : InF f p) : ElemsOK p := fun x hx => by
  obtain ⟨k, hk, rfl⟩ := List.mem_iff_getElem.1 hx
  have := h k hk
  have hM := M_lt f
  simp [hk] at this
  omega
theorem hz_pS (f x : Int) (x0 : 0 ≤ x) (x1 : x < M f) : ∀ p : List Int, InF f p → hz (mul f) (add f) x p = pS x p % M f
  | [], _ => by simp [hz, pS]
  | c :: cs, h => by
    have hc := h 0 (by simp)
    simp only [List.getD_cons_zero] at hc
    have hM := M_pos f
    have hm := Int.emod_nonneg (pS x cs) (b := M f) (by omega)
    have hm2 := Int.emod_lt_of_pos (pS x cs) hM
    rw [hz, hz_pS f x x0 x1 cs h.tail]
    unfold mul
    rw [redu_of_lt hm hm2, redu_of_lt x0 x1]
    unfold add
    rw [redu_of_lt (Int.emod_nonneg _ (by omega)) (Int.emod_lt_of_pos _ hM), redu_of_lt hc.1 hc.2, pS, Int.emod_add_emod, Int.add_emod, emod_mul, ← Int.add_emod, Int.mul_comm x, Int.add_comm c]
/-- One round of the reference's loop. -/
theorem rat_step (f x : Int) (x0 : 0 ≤ x) (x1 : x < M f) {p : List Int} (h : InF f p) {k : Nat} (hk : k < p.length) :
    add f (pS x (p.take k) % M f) (mul f (p.getD k 0) (x ^ k % M f)) = pS x (p.take (k + 1)) % M f ∧ mul f (x ^ k % M f) x = x ^ (k + 1) % M f := by
  have hM := M_pos f
  have hc := h k hk
  have e (y : Int) : 0 ≤ y % M f ∧ y % M f < M f := ⟨Int.emod_nonneg _ (by omega), Int.emod_lt_of_pos _ hM⟩
  unfold mul add
  rw [redu_of_lt hc.1 hc.2, redu_of_lt (e _).1 (e _).2, redu_of_lt x0 x1, redu_of_lt (e _).1 (e _).2, redu_of_lt (e _).1 (e _).2, pS_take x hk]
  refine ⟨?_, ?_⟩
  · rw [Int.emod_add_emod, Int.add_emod_emod, Int.add_emod, mul_emod', ← Int.add_emod, Int.mul_comm (p.getD k 0)]
  · rw [emod_mul, Int.pow_succ]
theorem emod_ok (f y : Int) : 0 ≤ y % M f ∧ y % M f < 340282366920938463463374607431768211456 := by
  have hM := M_pos f
  have := M_lt f
  have := Int.emod_lt_of_pos y hM
  exact ⟨Int.emod_nonneg _ (by omega), by omega⟩
/-- The sum of so many pairs' products. -/
def prs (mul add : Int → Int → Int) (xs : List Int) : Nat → Int
  | 0 => 0
  | k + 1 => add (prs mul add xs k) (mul (xs.getD (k * 2) 0) (xs.getD (k * 2 + 1) 0))
theorem prs_ok (f : Int) (xs : List Int) : ∀ k, 0 ≤ prs (mul f) (add f) xs k ∧ prs (mul f) (add f) xs k < 340282366920938463463374607431768211456
  | 0 => by simp [prs]
  | k + 1 => by
    have := add_bound f (prs (mul f) (add f) xs k) (mul f (xs.getD (k * 2) 0) (xs.getD (k * 2 + 1) 0))
    have := M_lt f
    rw [prs]
    omega
/-- The law's numbers: so many, over and over again. -/
def gin (f : Int) (ls : List Int) (n : Nat) : List Int := (List.range n).map fun i => redu f (ls.getD (i % ls.length) 0)
theorem gin_length (f : Int) (ls : List Int) (n : Nat) : (gin f ls n).length = n := by simp [gin]
theorem gin_at (f : Int) (ls : List Int) {n k : Nat} (h : k < n) : (gin f ls n).getD k 0 = redu f (ls.getD (k % ls.length) 0) := by simp [gin, h]
theorem gin_in (f : Int) (ls : List Int) (n : Nat) : InF f (gin f ls n) := fun k hk => by
  rw [gin_length] at hk
  rw [gin_at f ls hk]
  exact ⟨redu_nonneg _ _, redu_lt _ _⟩
/-- The law's coefficients, before the last is made to be something. -/
def gcs (f : Int) (cs : List Int) (n : Nat) : List Int := (List.range n).map fun i => redu f (cs.getD i 0)
theorem gcs_length (f : Int) (cs : List Int) (n : Nat) : (gcs f cs n).length = n := by simp [gcs]
theorem gcs_at (f : Int) (cs : List Int) {n k : Nat} (h : k < n) : (gcs f cs n).getD k 0 = redu f (cs.getD k 0) := by simp [gcs, h]
theorem gcs_succ (f : Int) (cs : List Int) (n : Nat) : gcs f cs (n + 1) = gcs f cs n ++ [redu f (cs.getD n 0)] := by simp [gcs, List.range_succ]
theorem gcs_in (f : Int) (cs : List Int) (n : Nat) : InF f (gcs f cs n) := fun k hk => by
  rw [gcs_length] at hk
  rw [gcs_at f cs hk]
  exact ⟨redu_nonneg _ _, redu_lt _ _⟩
theorem gset_in {f : Int} {p : List Int} (h : InF f p) (j : Nat) : InF f (p.set j 1) := fun k hk => by
  rw [List.length_set] at hk
  have hM : 1 < M f := by unfold M; split <;> omega
  by_cases e : j = k
  · subst e; simp [hk]; omega
  · have := h k hk
    simpa [List.getElem?_set, e] using this
end Go.Proofs.Ytailpfbdanhpmaa
