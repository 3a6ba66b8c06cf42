/-
  Mathematics of sums of bits, and of the number that bits say.
-/
import Derived.Test.YtgdokfchfgnbbaaCjC
namespace Go.Proofs.Ytgdokfchfgnbbaa
open Go.RowKit F
set_option linter.unusedVariables false

/-- All elements are of the field. -/
def InF (f : Int) (xs : List Int) : Prop := ∀ x, x ∈ xs → 0 ≤ x ∧ x < M f
theorem InF.ok {f : Int} {xs : List Int} (h : InF f xs) : ElemsOK xs := fun x hx => by have := h x hx; have := M_lt f; omega
theorem InF.at_ {f : Int} {xs : List Int} (h : InF f xs) {k : Nat} (hk : k < xs.length) : 0 ≤ xs.getD k 0 ∧ xs.getD k 0 < M f := by
  rw [List.getD_eq_getElem?_getD, List.getElem?_eq_getElem hk]
  exact h _ (List.getElem_mem hk)
theorem InF.take {f : Int} {xs : List Int} (h : InF f xs) (k : Nat) : InF f (xs.take k) := fun x hx => h x (List.mem_of_mem_take hx)
theorem InF.drop {f : Int} {xs : List Int} (h : InF f xs) (k : Nat) : InF f (xs.drop k) := fun x hx => h x (List.mem_of_mem_drop hx)
theorem M_big (f : Int) : 18446744069414584321 ≤ M f := by unfold M; split <;> omega
theorem redu_in {f x : Int} (h0 : 0 ≤ x) (h1 : x < M f) : redu f x = x := redu_of_lt h0 h1
theorem redu_nat {f : Int} {n : Nat} (h : n < 18446744069414584321) : redu f (n : Int) = (n : Int) := redu_of_lt (by omega) (by have := M_big f; omega)
theorem add_zero_in {f x : Int} (h0 : 0 ≤ x) (h1 : x < M f) : add f 0 x = x := by
  have e0 : redu f 0 = 0 := redu_of_lt (by omega) (by have := M_big f; omega)
  unfold add
  rw [e0, redu_in h0 h1, Int.zero_add]
  exact Int.emod_eq_of_lt h0 h1
/-- The sum of elements; the number that bits say. -/
def sumF (f : Int) (xs : List Int) : Int := xs.foldl (add f) 0
def numF (f : Int) (xs : List Int) : Int := (List.zipWith (mul f) xs (powers (mul f) 2 xs.length)).foldl (add f) 0
def bitsB (xs : List Int) : Bool := xs.all fun x => x == 0 || x == 1
def ones (xs : List Int) : Nat := (xs.map Int.toNat).sum
def said : List Int → Nat
  | [] => 0
  | x :: xs => x.toNat + 2 * said xs
theorem sumF_snoc (f : Int) (xs : List Int) (x : Int) : sumF f (xs ++ [x]) = add f (sumF f xs) x := by
  unfold sumF
  rw [List.foldl_append]
  rfl
theorem bitsB_cons {x : Int} {xs : List Int} (h : bitsB (x :: xs) = true) : (x = 0 ∨ x = 1) ∧ bitsB xs = true := by
  unfold bitsB at *
  simpa using h
theorem bitsB_append (a b : List Int) : bitsB (a ++ b) = (bitsB a && bitsB b) := by unfold bitsB; simp
theorem ones_append (a b : List Int) : ones (a ++ b) = ones a + ones b := by unfold ones; simp
theorem ones_le : ∀ {xs : List Int}, bitsB xs = true → ones xs ≤ xs.length
  | [], _ => by simp [ones]
  | x :: xs, h => by
    obtain ⟨hx, h⟩ := bitsB_cons h
    have := ones_le h
    unfold ones at *
    simp only [List.map_cons, List.sum_cons, List.length_cons]
    rcases hx with rfl | rfl <;> simp <;> omega
theorem said_lt : ∀ {xs : List Int}, bitsB xs = true → said xs < 2 ^ xs.length
  | [], _ => by simp [said]
  | x :: xs, h => by
    obtain ⟨hx, h⟩ := bitsB_cons h
    have := said_lt h
    simp only [said, List.length_cons, Nat.pow_succ]
    rcases hx with rfl | rfl <;> simp <;> omega
theorem bits_in {f : Int} {xs : List Int} (h : bitsB xs = true) : InF f xs := fun x hx => by
  unfold bitsB at h
  rw [List.all_eq_true] at h
  have := h x hx
  have := M_big f
  simp at *
  omega
/-- The sum of bits is how many are 1. -/
theorem sumF_bits (f : Int) {xs : List Int} (h : bitsB xs = true) (hl : xs.length ≤ 65536) : sumF f xs = (ones xs : Int) := by
  obtain ⟨n, hn⟩ : ∃ n, xs.length = n := ⟨_, rfl⟩
  induction n generalizing xs with
  | zero =>
    obtain rfl : xs = [] := List.length_eq_zero_iff.1 hn
    rfl
  | succ n ih =>
    obtain ⟨ys, x, rfl⟩ : ∃ ys x, xs = ys ++ [x] := by
      rcases xs.eq_nil_or_concat with rfl | ⟨ys, x, rfl⟩
      · simp at hn
      · exact ⟨ys, x, List.concat_eq_append⟩
    rw [bitsB_append, Bool.and_eq_true] at h
    obtain ⟨hx, _⟩ := bitsB_cons h.2
    rw [List.length_append] at hl hn
    simp only [List.length_cons, List.length_nil] at hl hn
    have hi := ih h.1 (by omega) (by omega)
    have hle := ones_le h.1
    rw [sumF_snoc, hi, ones_append]
    have e : ones [x] = x.toNat := by simp [ones]
    rw [e]
    have hM := M_big f
    unfold add
    rw [redu_nat (by omega), redu_in (by omega) (by omega), Int.emod_eq_of_lt (by omega) (by omega)]
    rcases hx with rfl | rfl <;> simp
theorem power_two (f : Int) : ∀ k, k ≤ 63 → power (mul f) 2 k = ((2 ^ k : Nat) : Int)
  | 0, _ => by simp [power]
  | k + 1, h => by
    have hi := power_two f k (by omega)
    have hp : 2 ^ (k + 1) ≤ 2 ^ 63 := Nat.pow_le_pow_right (by omega) h
    have hM := M_big f
    rw [power, hi]
    unfold mul
    rw [redu_nat (by rw [Nat.pow_succ] at hp; omega), redu_in (x := 2) (by omega) (by omega)]
    rw [Nat.pow_succ] at *
    rw [Int.emod_eq_of_lt (by omega) (by omega)]
    omega
theorem mul_bit {f x : Int} {P : Nat} (hx : x = 0 ∨ x = 1) (hP : P < 18446744069414584321) : mul f x (P : Int) = ((x.toNat * P : Nat) : Int) := by
  have hM := M_big f
  unfold mul
  rw [redu_nat hP, redu_in (by omega) (by omega)]
  rcases hx with rfl | rfl
  · simp
  · rw [Int.one_mul, Int.emod_eq_of_lt (by omega) (by omega)]
    simp
theorem said_snoc : ∀ (xs : List Int) (x : Int), said (xs ++ [x]) = said xs + x.toNat * 2 ^ xs.length
  | [], x => by simp [said]
  | y :: xs, x => by
    rw [List.cons_append, said, said_snoc xs x, said, List.length_cons, Nat.pow_succ, ← Nat.mul_assoc]
    omega
theorem powers_snoc (op : Int → Int → Int) (a : Int) (n : Nat) : powers op a (n + 1) = powers op a n ++ [power op a n] := by simp [powers, List.range_succ]
theorem numF_snoc (f : Int) (xs : List Int) (x : Int) : numF f (xs ++ [x]) = add f (numF f xs) (mul f x (power (mul f) 2 xs.length)) := by
  unfold numF
  rw [List.length_append, List.length_cons, List.length_nil, Nat.zero_add, powers_snoc, List.zipWith_append (by rw [powers_length]), List.foldl_append]
  rfl
/-- The number that bits say. -/
theorem numF_bits (f : Int) {xs : List Int} (h : bitsB xs = true) (hl : xs.length ≤ 62) : numF f xs = (said xs : Int) := by
  obtain ⟨n, hn⟩ : ∃ n, xs.length = n := ⟨_, rfl⟩
  induction n generalizing xs with
  | zero =>
    obtain rfl : xs = [] := List.length_eq_zero_iff.1 hn
    rfl
  | succ n ih =>
    obtain ⟨ys, x, rfl⟩ : ∃ ys x, xs = ys ++ [x] := by
      rcases xs.eq_nil_or_concat with rfl | ⟨ys, x, rfl⟩
      · simp at hn
      · exact ⟨ys, x, List.concat_eq_append⟩
    have hlt := said_lt h
    rw [bitsB_append, Bool.and_eq_true] at h
    obtain ⟨hx, _⟩ := bitsB_cons h.2
    have hlen : (ys ++ [x]).length = ys.length + 1 := by simp
    rw [hlen] at hl hn hlt
    have hi := ih h.1 (by omega) (by omega)
    have hp : 2 ^ (ys.length + 1) ≤ 2 ^ 62 := Nat.pow_le_pow_right (by omega) hl
    have hp2 : 2 ^ ys.length ≤ 2 ^ 62 := Nat.pow_le_pow_right (by omega) (by omega)
    rw [numF_snoc, hi, power_two f _ (by omega), mul_bit hx (by omega)]
    rw [said_snoc] at hlt ⊢
    have hM := M_big f
    generalize x.toNat * 2 ^ ys.length = T at *
    unfold add
    rw [redu_nat (by omega), redu_nat (by omega), Int.emod_eq_of_lt (by omega) (by omega)]
    omega
end Go.Proofs.Ytgdokfchfgnbbaa
