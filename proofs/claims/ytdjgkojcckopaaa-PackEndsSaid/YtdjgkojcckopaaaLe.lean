/-
  Plain mathematics: numbers as bytes, the lowest first.
-/
import Derived.Test.YtdjgkojcckopaaaMath
namespace Go.Proofs.Ytdjgkojcckopaaa.F

/-- So many bytes of a number. -/
def loBytes : Nat → Int → List Int
  | 0, _ => []
  | n + 1, x => x % 256 :: loBytes n (x / 256)
/-- The number that bytes are. -/
def loVal : List Int → Int
  | [] => 0
  | y :: ys => y + 256 * loVal ys
theorem loBytes_length : ∀ (n : Nat) (x : Int), (loBytes n x).length = n
  | 0, _ => rfl
  | n + 1, x => by simp [loBytes, loBytes_length n]
theorem ediv_pow (x : Int) (k : Nat) : x / 256 / 256 ^ k = x / 256 ^ (k + 1) := by
  rw [Int.ediv_ediv_of_nonneg (by omega), Int.pow_succ']
theorem loBytes_at : ∀ (n : Nat) (x : Int) (k : Nat), k < n → (loBytes n x).getD k 0 = x / 256 ^ k % 256
  | n + 1, x, 0, _ => by simp [loBytes]
  | n + 1, x, k + 1, h => by
    have := loBytes_at n (x / 256) k (by omega)
    rw [ediv_pow] at this
    simpa [loBytes] using this
theorem loBytes_take : ∀ (n : Nat) (x : Int) (k : Nat), k ≤ n → (loBytes n x).take k = loBytes k x
  | _, _, 0, _ => by simp [loBytes]
  | n + 1, x, k + 1, h => by simp [loBytes, loBytes_take n (x / 256) k (by omega)]
theorem loBytes_succ (k : Nat) (x : Int) : loBytes (k + 1) x = loBytes k x ++ [x / 256 ^ k % 256] := by
  have h := loBytes_take (k + 1) x k (by omega)
  have hl := loBytes_length (k + 1) x
  have ha := loBytes_at (k + 1) x k (by omega)
  have e : loBytes (k + 1) x = (loBytes (k + 1) x).take k ++ (loBytes (k + 1) x).drop k := (List.take_append_drop k _).symm
  rw [e, h]
  congr 1
  have hk : k < (loBytes (k + 1) x).length := by omega
  rw [List.drop_eq_getElem_cons hk, List.drop_of_length_le (by omega)]
  rw [← ha]
  simp [hk]
theorem loVal_loBytes : ∀ (n : Nat) (x : Int), 0 ≤ x → x < 256 ^ n → loVal (loBytes n x) = x
  | 0, x, h0, h1 => by simp at h1; simp [loBytes, loVal]; omega
  | n + 1, x, h0, h1 => by
    have e : (256 : Int) ^ (n + 1) = 256 * 256 ^ n := Int.pow_succ' ..
    have := loVal_loBytes n (x / 256) (by omega) (by rw [e] at h1; omega)
    simp only [loBytes, loVal, this]
    omega
theorem loVal_bound : ∀ (ys : List Int), (∀ y, y ∈ ys → 0 ≤ y ∧ y < 256) → 0 ≤ loVal ys ∧ loVal ys < 256 ^ ys.length
  | [], _ => by simp [loVal]
  | y :: ys, h => by
    have h1 := h y (by simp)
    have h2 := loVal_bound ys (fun z hz => h z (by simp [hz]))
    have e : (256 : Int) ^ (y :: ys).length = 256 * 256 ^ ys.length := by rw [List.length_cons]; exact Int.pow_succ' ..
    simp only [loVal]
    rw [e]
    omega
theorem loVal_append : ∀ (xs ys : List Int), loVal (xs ++ ys) = loVal xs + 256 ^ xs.length * loVal ys
  | [], ys => by simp [loVal]
  | x :: xs, ys => by
    have e : (256 : Int) ^ (x :: xs).length = 256 * 256 ^ xs.length := by rw [List.length_cons]; exact Int.pow_succ' ..
    rw [List.cons_append, loVal, loVal, loVal_append xs ys, e, Int.mul_add, Int.mul_assoc]
    omega
theorem loVal_drop {ys : List Int} {k : Nat} (h : k < ys.length) : loVal (ys.drop k) = ys.getD k 0 + 256 * loVal (ys.drop (k + 1)) := by
  rw [List.drop_eq_getElem_cons h, loVal]
  simp [h]
theorem loBytes_loVal : ∀ (ys : List Int), (∀ y, y ∈ ys → 0 ≤ y ∧ y < 256) → loBytes ys.length (loVal ys) = ys
  | [], _ => rfl
  | y :: ys, h => by
    have h1 := h y (by simp)
    have ih := loBytes_loVal ys (fun z hz => h z (by simp [hz]))
    rw [List.length_cons, loBytes, loVal]
    rw [show (y + 256 * loVal ys) % 256 = y by omega, show (y + 256 * loVal ys) / 256 = loVal ys by omega, ih]
theorem loBytes_ok : ∀ (n : Nat) (x : Int), ∀ y, y ∈ loBytes n x → 0 ≤ y ∧ y < 256
  | 0, _, y, h => by cases h
  | n + 1, x, y, h => by
    rcases List.mem_cons.1 h with rfl | h
    · omega
    · exact loBytes_ok n (x / 256) y h
end Go.Proofs.Ytdjgkojcckopaaa.F
