/-
  Plain arithmetic of the two fields: elements as integers, their low and high 64 bits, the two moduli.
-/
import Derived.WalkKit
namespace Go.Proofs.YtnlnbikiocdpdaaDoor.F

def lo (x : Int) : Int := x % 18446744073709551616
def hi (x : Int) : Int := x / 18446744073709551616
def val (a b : Int) : Int := a + b * 18446744073709551616
def M (f : Int) : Int := if f = 1 then 18446744069414584321 else 340282366920938462946865773367900766209
def redu (f x : Int) : Int := (if f = 1 then lo x else x) % M f
def add (f x y : Int) : Int := (redu f x + redu f y) % M f
def neg (f x : Int) : Int := (- redu f x) % M f
def sub (f x y : Int) : Int := (redu f x - redu f y) % M f
def mul (f x y : Int) : Int := (redu f x * redu f y) % M f

theorem val_lohi (x : Int) : val (lo x) (hi x) = x := by unfold val lo hi; omega
theorem lo_val {a b : Int} (h0 : 0 ≤ a) (h1 : a < 18446744073709551616) : lo (val a b) = a := by unfold val lo; omega
theorem hi_val {a b : Int} (h0 : 0 ≤ a) (h1 : a < 18446744073709551616) : hi (val a b) = b := by unfold val hi; omega
theorem lo_nonneg (x : Int) : 0 ≤ lo x := by unfold lo; omega
theorem lo_lt (x : Int) : lo x < 18446744073709551616 := by unfold lo; omega
theorem M_pos (f : Int) : 0 < M f := by unfold M; split <;> omega
theorem M_lt (f : Int) : M f ≤ 340282366920938462946865773367900766209 := by unfold M; split <;> omega
theorem redu_nonneg (f x : Int) : 0 ≤ redu f x := Int.emod_nonneg _ (by have := M_pos f; omega)
theorem redu_lt (f x : Int) : redu f x < M f := Int.emod_lt_of_pos _ (M_pos f)
theorem lo_lo (x : Int) : lo (lo x) = lo x := by unfold lo; omega
theorem hi_lo (x : Int) : hi (lo x) = 0 := by unfold lo hi; omega
theorem hi_lt {x : Int} (h : x < 340282366920938463463374607431768211456) : hi x < 18446744073709551616 := by unfold hi; omega
theorem hi_nonneg {x : Int} (h : 0 ≤ x) : 0 ≤ hi x := by unfold hi; omega
theorem redu_big1 {x : Int} (h : M 1 ≤ lo x) : redu 1 x = lo x - M 1 := by
  have := lo_lt x
  unfold redu
  rw [if_pos rfl, ← Int.sub_emod_right]
  exact Int.emod_eq_of_lt (by omega) (by unfold M at *; simp at *; omega)
theorem redu_small1 {x : Int} (h : lo x < M 1) : redu 1 x = lo x := by
  unfold redu
  rw [if_pos rfl]
  exact Int.emod_eq_of_lt (lo_nonneg x) h
theorem redu_big {f x : Int} (hf : f ≠ 1) (h : M f ≤ x) (h1 : x < 340282366920938463463374607431768211456) : redu f x = x - M f := by
  unfold redu
  rw [if_neg hf, ← Int.sub_emod_right]
  exact Int.emod_eq_of_lt (by omega) (by unfold M at *; rw [if_neg hf] at *; omega)
theorem redu_small {f x : Int} (hf : f ≠ 1) (h0 : 0 ≤ x) (h : x < M f) : redu f x = x := by
  unfold redu
  rw [if_neg hf]
  exact Int.emod_eq_of_lt h0 h
theorem add_big_eq {f x y : Int} (h : M f ≤ redu f x + redu f y) : add f x y = redu f x - (M f - redu f y) := by
  have := redu_lt f x
  have := redu_lt f y
  unfold add
  rw [← Int.sub_emod_right, Int.emod_eq_of_lt (by omega) (by omega)]
  omega
theorem add_small_eq {f x y : Int} (h : redu f x + redu f y < M f) : add f x y = redu f x + redu f y := by
  have := redu_nonneg f x
  have := redu_nonneg f y
  unfold add
  rw [Int.emod_eq_of_lt (by omega) (by omega)]
theorem neg_zero {f x : Int} (h : redu f x = 0) : neg f x = redu f x := by
  unfold neg; rw [h]; simp
theorem neg_pos {f x : Int} (h : redu f x ≠ 0) : neg f x = M f - redu f x := by
  have := redu_nonneg f x
  have := redu_lt f x
  unfold neg
  rw [← Int.add_emod_right, Int.emod_eq_of_lt (by omega) (by omega)]
  omega
theorem zero_iff {x : Int} (h : 0 ≤ x) : (lo x == 0 && hi x == 0) = decide (x = 0) := by
  unfold lo hi
  by_cases h0 : x = 0
  · subst h0; decide
  · simp only [h0, decide_false, Bool.and_eq_false_iff, beq_eq_false_iff_ne]; omega
theorem neg_bound (f x : Int) : 0 ≤ neg f x ∧ neg f x < M f := ⟨Int.emod_nonneg _ (by have := M_pos f; omega), Int.emod_lt_of_pos _ (M_pos f)⟩
theorem add_bound (f x y : Int) : 0 ≤ add f x y ∧ add f x y < M f := ⟨Int.emod_nonneg _ (by have := M_pos f; omega), Int.emod_lt_of_pos _ (M_pos f)⟩
theorem sub_bound (f x y : Int) : 0 ≤ sub f x y ∧ sub f x y < M f := ⟨Int.emod_nonneg _ (by have := M_pos f; omega), Int.emod_lt_of_pos _ (M_pos f)⟩
theorem mul_bound (f x y : Int) : 0 ≤ mul f x y ∧ mul f x y < M f := ⟨Int.emod_nonneg _ (by have := M_pos f; omega), Int.emod_lt_of_pos _ (M_pos f)⟩
theorem M1 : M 1 = 18446744069414584321 := rfl
/-- An element is itself as an element. -/
theorem redu_of_lt {f x : Int} (h0 : 0 ≤ x) (h : x < M f) : redu f x = x := by
  unfold redu
  split
  · rename_i hf
    subst hf
    rw [M1] at *
    unfold lo
    omega
  · exact Int.emod_eq_of_lt h0 h
theorem redu_redu (f x : Int) : redu f (redu f x) = redu f x := redu_of_lt (redu_nonneg f x) (redu_lt f x)
theorem sub_eq (f x y : Int) : add f x (neg f y) = sub f x y := by
  have hb := neg_bound f y
  unfold add
  rw [redu_of_lt hb.1 hb.2]
  unfold neg sub
  rw [Int.add_emod_emod, ← Int.sub_eq_add_neg]
/-- Whether bit number i of a number is set. -/
def bitOf (x : Int) (i : Nat) : Bool := decide (x / 2 ^ i % 2 = 1)
theorem half_step (x : Int) (k : Nat) : x / 2 ^ k / 2 = x / 2 ^ (k + 1) := by
  rw [Int.pow_succ, Int.ediv_ediv_of_nonneg (Int.le_of_lt (Int.pow_pos (by omega)))]
theorem half_bound {x : Int} (h : 0 ≤ x) (k : Nat) : 0 ≤ x / 2 ^ k ∧ x / 2 ^ k ≤ x := by
  have hp : (0 : Int) < 2 ^ k := Int.pow_pos (by omega)
  exact ⟨Int.ediv_nonneg h (Int.le_of_lt hp), Int.ediv_le_self _ h⟩
theorem bit_lo (x : Int) (r : Nat) (h : r < 64) : lo x / 2 ^ r % 2 = x / 2 ^ r % 2 := by
  have e : (18446744073709551616 : Int) = 2 ^ r * (2 ^ (63 - r) * 2) := by
    rw [← Int.mul_assoc, ← Int.pow_add, ← Int.pow_succ, show r + (63 - r) = 63 by omega]; rfl
  have hp : (0 : Int) < 2 ^ r := Int.pow_pos (by omega)
  have h1 : lo x = x - 2 ^ r * (2 ^ (63 - r) * 2) * (x / 18446744073709551616) := by rw [← e]; unfold lo; omega
  rw [h1, Int.mul_assoc, Int.sub_mul_ediv_left _ _ (Int.ne_of_gt hp), Int.mul_comm (2 ^ (63 - r)) 2, Int.mul_assoc]
  exact Int.sub_mul_emod_self_left _ _ _
theorem bit_hi (x : Int) (r : Nat) : hi x / 2 ^ r = x / 2 ^ (64 + r) := by
  unfold hi
  rw [Int.ediv_ediv_of_nonneg (by omega), Int.pow_add]; rfl
theorem bitOf_lo (x : Int) (r : Nat) (h : r < 64) : (lo x / 2 ^ r % 2 == 1) = bitOf x r := by
  unfold bitOf; rw [bit_lo x r h]; rfl
theorem bitOf_hi (x : Int) (r : Nat) : (hi x / 2 ^ r % 2 == 1) = bitOf x (64 + r) := by
  unfold bitOf; rw [bit_hi x r]; rfl
/-- A product, as far as the upper bits go. -/
def mulTo (f x y : Int) (k : Nat) : Int := redu f x * (redu f y / 2 ^ k) % M f
theorem mulTo_bound (f x y : Int) (k : Nat) : 0 ≤ mulTo f x y k ∧ mulTo f x y k < M f := ⟨Int.emod_nonneg _ (by have := M_pos f; omega), Int.emod_lt_of_pos _ (M_pos f)⟩
theorem mulTo_zero (f x y : Int) : mulTo f x y 0 = mul f x y := by unfold mulTo mul; simp
theorem mulTo_top (f x y : Int) : mulTo f x y 128 = 0 := by
  unfold mulTo
  rw [Int.ediv_eq_zero_of_lt (redu_nonneg f y) (by have := redu_lt f y; have := M_lt f; omega)]; simp
theorem bit_split (y : Int) (k : Nat) : y / 2 ^ k = 2 * (y / 2 ^ (k + 1)) + if bitOf y k = true then 1 else 0 := by
  rw [← half_step]
  unfold bitOf
  simp only [decide_eq_true_eq]
  split <;> omega
theorem mulTo_twice (f x y : Int) (k : Nat) : add f (mulTo f x y (k + 1)) (mulTo f x y (k + 1)) = redu f x * (2 * (redu f y / 2 ^ (k + 1))) % M f := by
  have hb := mulTo_bound f x y (k + 1)
  unfold add
  rw [redu_of_lt hb.1 hb.2]
  unfold mulTo
  rw [← Int.add_emod, ← Int.mul_add]
  congr 2; omega
theorem mulTo_step0 {f x y : Int} {k : Nat} (h : bitOf (redu f y) k = false) : add f (mulTo f x y (k + 1)) (mulTo f x y (k + 1)) = mulTo f x y k := by
  rw [mulTo_twice]
  unfold mulTo
  rw [bit_split (redu f y) k, h]; simp
theorem mulTo_step1 {f x y : Int} {k : Nat} (h : bitOf (redu f y) k = true) : add f (add f (mulTo f x y (k + 1)) (mulTo f x y (k + 1))) (redu f x) = mulTo f x y k := by
  have hb := add_bound f (mulTo f x y (k + 1)) (mulTo f x y (k + 1))
  rw [show mulTo f x y k = redu f x * (redu f y / 2 ^ k) % M f from rfl, bit_split (redu f y) k, h, if_pos rfl]
  rw [show ∀ a b, add f a b = (redu f a + redu f b) % M f from fun _ _ => rfl, redu_of_lt hb.1 hb.2, redu_redu, mulTo_twice, Int.emod_add_emod, Int.mul_add, Int.mul_one]
/-- A power, as far as the exponent's upper bits go. -/
def pow (f x : Int) (n : Nat) : Int := redu f x ^ n % M f
def powTo (f x n : Int) (k : Nat) : Int := pow f x (n / 2 ^ k).toNat
theorem pow_bound (f x : Int) (n : Nat) : 0 ≤ pow f x n ∧ pow f x n < M f := ⟨Int.emod_nonneg _ (by have := M_pos f; omega), Int.emod_lt_of_pos _ (M_pos f)⟩
theorem powTo_zero (f x n : Int) : powTo f x n 0 = pow f x n.toNat := by unfold powTo; simp
theorem powTo_top {f x n : Int} (h0 : 0 ≤ n) (h : n < 340282366920938463463374607431768211456) : powTo f x n 128 = 1 := by
  unfold powTo pow
  rw [Int.ediv_eq_zero_of_lt h0 (by omega)]
  unfold M
  split <;> simp
theorem mul_pow (f x : Int) (a b : Nat) : mul f (pow f x a) (pow f x b) = pow f x (a + b) := by
  have ha := pow_bound f x a
  have hb := pow_bound f x b
  unfold mul
  rw [redu_of_lt ha.1 ha.2, redu_of_lt hb.1 hb.2]
  unfold pow
  rw [← Int.mul_emod, ← Int.pow_add]
theorem mul_pow_self (f x : Int) (a : Nat) : mul f (pow f x a) x = pow f x (a + 1) := by
  have ha := pow_bound f x a
  unfold mul
  rw [redu_of_lt ha.1 ha.2]
  unfold pow
  rw [Int.pow_succ, Int.mul_emod (redu f x ^ a % M f), Int.emod_emod, ← Int.mul_emod]
theorem powTo_step0 {f x n : Int} {k : Nat} (h0 : 0 ≤ n) (h : bitOf n k = false) : mul f (powTo f x n (k + 1)) (powTo f x n (k + 1)) = powTo f x n k := by
  unfold powTo
  rw [mul_pow, bit_split n k, h]
  have := (half_bound h0 (k + 1)).1
  congr 1
  simp
  omega
theorem powTo_step1 {f x n : Int} {k : Nat} (h0 : 0 ≤ n) (h : bitOf n k = true) : mul f (mul f (powTo f x n (k + 1)) (powTo f x n (k + 1))) x = powTo f x n k := by
  unfold powTo
  rw [mul_pow, mul_pow_self, bit_split n k, h]
  have := (half_bound h0 (k + 1)).1
  congr 1
  simp
  omega
theorem lo_of_lt {a : Int} (h0 : 0 ≤ a) (h1 : a < 18446744073709551616) : lo a = a := by unfold lo; omega
theorem hi_of_lt {a : Int} (h0 : 0 ≤ a) (h1 : a < 18446744073709551616) : hi a = 0 := by unfold hi; omega
theorem gredu {a : Int} (h0 : 0 ≤ a) (h1 : a < 18446744073709551616) : redu 1 a = a % 18446744069414584321 := by
  unfold redu; rw [if_pos rfl, lo_of_lt h0 h1, M1]
theorem gredu_big {a : Int} (h : 18446744069414584321 ≤ a) (h1 : a < 18446744073709551616) : redu 1 a = a - 18446744069414584321 := by
  rw [gredu (by omega) h1]; omega
theorem gredu_small {a : Int} (h0 : 0 ≤ a) (h : a < 18446744069414584321) : redu 1 a = a := by
  rw [gredu h0 (by omega)]; omega
theorem gsub_less {a b : Int} (h : redu 1 a < redu 1 b) : sub 1 a b = 18446744069414584321 - (redu 1 b - redu 1 a) := by
  have := redu_nonneg 1 a
  have := redu_lt 1 b
  unfold sub
  rw [M1] at *
  omega
theorem gsub_more {a b : Int} (h : redu 1 b ≤ redu 1 a) : sub 1 a b = redu 1 a - redu 1 b := by
  have := redu_nonneg 1 b
  have := redu_lt 1 a
  unfold sub
  rw [M1] at *
  omega
theorem gadd_eq (a b : Int) : sub 1 a (neg 1 b) = add 1 a b := by
  have h := neg_bound 1 b
  have h2 := redu_nonneg 1 a
  have h3 := redu_lt 1 a
  have h4 := redu_nonneg 1 b
  have h5 := redu_lt 1 b
  unfold sub add
  rw [redu_of_lt h.1 h.2]
  unfold neg at *
  rw [M1] at *
  omega
theorem mul_high {x y : Nat} (hx : x < 18446744073709551616) (hy : y < 18446744073709551616) : x * y / 18446744073709551616 < 18446744073709551616 :=
  Nat.div_lt_of_lt_mul (Nat.lt_of_le_of_lt (Nat.mul_le_mul_left x (Nat.le_of_lt hy)) ((Nat.mul_lt_mul_right (by omega)).2 hx))
theorem gmul_eq (x y : Nat) (hx : x < 18446744073709551616) (hy : y < 18446744073709551616) :
    (((x * y / 18446744073709551616 : Nat) : Int) * 18446744073709551616 + ((x * y % 18446744073709551616 : Nat) : Int)) % 18446744069414584321 = mul 1 x y := by
  unfold mul
  rw [gredu (by omega) (by omega), gredu (by omega) (by omega), M1, ← Int.mul_emod, ← Int.natCast_mul]
  generalize x * y = z
  omega
/-- What a power's loop knows. -/
def PowInv (a n p b m : Int) : Prop := p * redu 1 b ^ m.toNat % M 1 = pow 1 a n.toNat ∧ 0 ≤ p ∧ p < M 1 ∧ 0 ≤ b ∧ b < 18446744073709551616 ∧ 0 ≤ m ∧ m < 18446744073709551616
theorem powinv_start {a n : Int} (h0 : 0 ≤ a) (h1 : a < 18446744073709551616) (h2 : 0 ≤ n) (h3 : n < 18446744073709551616) : PowInv a n 1 a n :=
  ⟨by unfold pow; rw [Int.one_mul], by omega, by rw [M1]; omega, h0, h1, h2, h3⟩
theorem powinv_end {a n p b m : Int} (h : PowInv a n p b m) (hm : m ≤ 0) : p = pow 1 a n.toNat := by
  obtain ⟨h1, h2, h3, _⟩ := h
  rw [← h1, show m.toNat = 0 by omega, Int.pow_zero, Int.mul_one, Int.emod_eq_of_lt h2 h3]
theorem pow_emod (x m : Int) (k : Nat) : (x % m) ^ k % m = x ^ k % m := by
  induction k with
  | zero => rw [Int.pow_zero, Int.pow_zero]
  | succ k ih => rw [Int.pow_succ, Int.pow_succ, Int.mul_emod, ih, Int.emod_emod, ← Int.mul_emod]
theorem square_pow (b : Int) (k : Nat) : redu 1 (mul 1 b b) ^ k % M 1 = redu 1 b ^ (2 * k) % M 1 := by
  have h := mul_bound 1 b b
  rw [redu_of_lt h.1 h.2]
  unfold mul
  rw [pow_emod, Int.pow_mul, Int.pow_succ, Int.pow_succ, Int.pow_zero, Int.one_mul]
theorem powinv_even {a n p b m : Int} (h : PowInv a n p b m) (hm : 0 < m) (he : m % 2 = 0) : PowInv a n p (mul 1 b b) (m / 2) := by
  obtain ⟨h1, h2, h3, h4, h5, h6, h7⟩ := h
  have hb := mul_bound 1 b b
  refine ⟨?_, h2, h3, hb.1, by rw [M1] at hb; omega, by omega, by omega⟩
  rw [← h1, Int.mul_emod, square_pow, ← Int.mul_emod]
  congr 3
  omega
theorem powinv_odd {a n p b m : Int} (h : PowInv a n p b m) (hm : 0 < m) (ho : m % 2 = 1) : PowInv a n (mul 1 p b) (mul 1 b b) (m / 2) := by
  obtain ⟨h1, h2, h3, h4, h5, h6, h7⟩ := h
  have hb := mul_bound 1 b b
  have hp := mul_bound 1 p b
  refine ⟨?_, hp.1, hp.2, hb.1, by rw [M1] at hb; omega, by omega, by omega⟩
  rw [← h1, Int.mul_emod, square_pow, ← Int.mul_emod]
  conv => lhs; unfold mul
  rw [redu_of_lt h2 h3, Int.mul_emod, Int.emod_emod, ← Int.mul_emod, Int.mul_assoc, ← Int.pow_succ']
  congr 3
  omega
theorem and_one {m : Int} (h0 : 0 ≤ m) (h1 : m < 18446744073709551616) : bits .and .u64 m 1 = m % 2 := by
  obtain ⟨n, rfl⟩ := Int.eq_ofNat_of_zero_le h0
  have h := bits_and_u64_nat n 1 (by omega) (by omega)
  have e : n &&& 1 = n % 2 := Nat.and_one_is_mod n
  rw [e] at h
  exact h
theorem sub_less {f a b : Int} (h : redu f a < redu f b) : sub f a b = M f - (redu f b - redu f a) := by
  have := redu_nonneg f a
  have := redu_lt f b
  unfold sub
  rw [← Int.add_emod_right, Int.emod_eq_of_lt (by omega) (by omega)]
  omega
theorem sub_more {f a b : Int} (h : redu f b ≤ redu f a) : sub f a b = redu f a - redu f b := by
  have := redu_nonneg f b
  have := redu_lt f a
  unfold sub
  rw [Int.emod_eq_of_lt (by omega) (by omega)]
theorem sub_neg_add (f a b : Int) : sub f a (neg f b) = add f a b := by
  have h := neg_bound f b
  unfold sub
  rw [redu_of_lt h.1 h.2]
  unfold neg add
  rw [Int.sub_emod, Int.emod_emod, ← Int.sub_emod, Int.sub_neg]
theorem redu_zero (f : Int) : redu f 0 = 0 := redu_of_lt (Int.le_refl 0) (M_pos f)
theorem sub_zero_neg (f a : Int) : sub f 0 a = neg f a := by
  unfold sub neg
  rw [redu_zero, Int.zero_sub]
theorem less_hi {x y : Int} (h : x < y) : hi x ≤ hi y := by unfold hi; omega
theorem less_lo_of {x y : Int} (h : x < y) (h1 : ¬ hi x < hi y) : lo x < lo y := by unfold lo hi at *; omega
theorem not_less_hi {x y : Int} (h : y ≤ x) : ¬ hi x < hi y := by unfold hi; omega
theorem not_less_lo {x y : Int} (h : y ≤ x) (h1 : hi x = hi y) : ¬ lo x < lo y := by unfold lo hi at *; omega
theorem less_val (a0 a1 b0 b1 : Int) (ha : 0 ≤ a0) (ha' : a0 < 18446744073709551616) (hb : 0 ≤ b0) (hb' : b0 < 18446744073709551616) :
    (if a1 = b1 then decide (a0 < b0) else decide (a1 < b1)) = decide (val a0 a1 < val b0 b1) := by
  unfold val
  split
  · subst_vars; simp
  · by_cases h : a1 < b1
    · simp [h]; omega
    · simp [h]; omega
theorem take_eq (a0 a1 b0 b1 : Int) (ha : 0 ≤ a0) (ha' : a0 < 18446744073709551616) (hb : 0 ≤ b0) (hb' : b0 < 18446744073709551616) (h : val b0 b1 ≤ val a0 a1) (hb1 : 0 ≤ b1) (ha1 : a1 < 18446744073709551616) :
    lo (val a0 a1 - val b0 b1) = (a0 - b0) % 18446744073709551616 ∧
    hi (val a0 a1 - val b0 b1) = if a0 < b0 then ((a1 - b1) % 18446744073709551616 - 1) % 18446744073709551616 else (a1 - b1) % 18446744073709551616 := by
  unfold val lo hi at *
  constructor
  · omega
  · split <;> omega
theorem plus_eq (a0 a1 b0 b1 : Int) (ha : 0 ≤ a0) (ha' : a0 < 18446744073709551616) (hb : 0 ≤ b0) (hb' : b0 < 18446744073709551616) (h : val a0 a1 + val b0 b1 < 340282366920938463463374607431768211456) (hb1 : 0 ≤ b1) (ha1 : 0 ≤ a1) :
    lo (val a0 a1 + val b0 b1) = (a0 + b0) % 18446744073709551616 ∧
    hi (val a0 a1 + val b0 b1) = if (a0 + b0) % 18446744073709551616 < a0 then ((a1 + b1) % 18446744073709551616 + 1) % 18446744073709551616 else (a1 + b1) % 18446744073709551616 := by
  unfold val lo hi at *
  constructor
  · omega
  · split <;> omega

end Go.Proofs.YtnlnbikiocdpdaaDoor.F
