import Derived.WalkKit
import Derived.Test.YtebgfelbffgnbaaGreatDoorRows
import Derived.ProofKit
import Derived.Outline
import Derived.Deep.RegionHeld3
import Derived.Deep.QuietTactic
import Derived.StillTail
import Derived.Below
import Derived.RowKit
import Derived.BigQuiet
import Derived.Lib.Hide
/-
  Plain arithmetic of the two fields: elements as integers, their low and high 64 bits, the two moduli.
-/
namespace Go.Proofs.YtebgfelbffgnbaaGreatDoor.F

def lo (x : Int) : Int := x % 18446744073709551616
def hi (x : Int) : Int := x / 18446744073709551616
def val (a b : Int) : Int := a + b * 18446744073709551616
def M (f : Int) : Int := if f = 1 then 18446744069414584321 else 340282366920938462946865773367900766209
def redu (f x : Int) : Int := (if f = 1 then lo x else x) % M f
def add (f x y : Int) : Int := (redu f x + redu f y) % M f
def neg (f x : Int) : Int := (- redu f x) % M f
def sub (f x y : Int) : Int := (redu f x - redu f y) % M f
def mul (f x y : Int) : Int := (redu f x * redu f y) % M f

theorem val_lohi (x : Int) : val (lo x) (hi x) = x := by unfold val lo hi; omega
theorem lo_val {a b : Int} (h0 : 0 ≤ a) (h1 : a < 18446744073709551616) : lo (val a b) = a := by unfold val lo; omega
theorem hi_val {a b : Int} (h0 : 0 ≤ a) (h1 : a < 18446744073709551616) : hi (val a b) = b := by unfold val hi; omega
theorem lo_nonneg (x : Int) : 0 ≤ lo x := by unfold lo; omega
theorem lo_lt (x : Int) : lo x < 18446744073709551616 := by unfold lo; omega
theorem M_pos (f : Int) : 0 < M f := by unfold M; split <;> omega
theorem M_lt (f : Int) : M f ≤ 340282366920938462946865773367900766209 := by unfold M; split <;> omega
theorem redu_nonneg (f x : Int) : 0 ≤ redu f x := Int.emod_nonneg _ (by have := M_pos f; omega)
theorem redu_lt (f x : Int) : redu f x < M f := Int.emod_lt_of_pos _ (M_pos f)
theorem lo_lo (x : Int) : lo (lo x) = lo x := by unfold lo; omega
theorem hi_lo (x : Int) : hi (lo x) = 0 := by unfold lo hi; omega
theorem hi_lt {x : Int} (h : x < 340282366920938463463374607431768211456) : hi x < 18446744073709551616 := by unfold hi; omega
theorem hi_nonneg {x : Int} (h : 0 ≤ x) : 0 ≤ hi x := by unfold hi; omega
theorem redu_big1 {x : Int} (h : M 1 ≤ lo x) : redu 1 x = lo x - M 1 := by
  have := lo_lt x
  unfold redu
  rw [if_pos rfl, ← Int.sub_emod_right]
  exact Int.emod_eq_of_lt (by omega) (by unfold M at *; simp at *; omega)
theorem redu_small1 {x : Int} (h : lo x < M 1) : redu 1 x = lo x := by
  unfold redu
  rw [if_pos rfl]
  exact Int.emod_eq_of_lt (lo_nonneg x) h
theorem redu_big {f x : Int} (hf : f ≠ 1) (h : M f ≤ x) (h1 : x < 340282366920938463463374607431768211456) : redu f x = x - M f := by
  unfold redu
  rw [if_neg hf, ← Int.sub_emod_right]
  exact Int.emod_eq_of_lt (by omega) (by unfold M at *; rw [if_neg hf] at *; omega)
theorem redu_small {f x : Int} (hf : f ≠ 1) (h0 : 0 ≤ x) (h : x < M f) : redu f x = x := by
  unfold redu
  rw [if_neg hf]
  exact Int.emod_eq_of_lt h0 h
theorem neg_zero {f x : Int} (h : redu f x = 0) : neg f x = redu f x := by
  unfold neg; rw [h]; simp
theorem neg_pos {f x : Int} (h : redu f x ≠ 0) : neg f x = M f - redu f x := by
  have := redu_nonneg f x
  have := redu_lt f x
  unfold neg
  rw [← Int.add_emod_right, Int.emod_eq_of_lt (by omega) (by omega)]
  omega
theorem zero_iff {x : Int} (h : 0 ≤ x) : (lo x == 0 && hi x == 0) = decide (x = 0) := by
  unfold lo hi
  by_cases h0 : x = 0
  · subst h0; decide
  · simp only [h0, decide_false, Bool.and_eq_false_iff, beq_eq_false_iff_ne]; omega
theorem neg_bound (f x : Int) : 0 ≤ neg f x ∧ neg f x < M f := ⟨Int.emod_nonneg _ (by have := M_pos f; omega), Int.emod_lt_of_pos _ (M_pos f)⟩
theorem add_bound (f x y : Int) : 0 ≤ add f x y ∧ add f x y < M f := ⟨Int.emod_nonneg _ (by have := M_pos f; omega), Int.emod_lt_of_pos _ (M_pos f)⟩
theorem sub_bound (f x y : Int) : 0 ≤ sub f x y ∧ sub f x y < M f := ⟨Int.emod_nonneg _ (by have := M_pos f; omega), Int.emod_lt_of_pos _ (M_pos f)⟩
theorem mul_bound (f x y : Int) : 0 ≤ mul f x y ∧ mul f x y < M f := ⟨Int.emod_nonneg _ (by have := M_pos f; omega), Int.emod_lt_of_pos _ (M_pos f)⟩
theorem M1 : M 1 = 18446744069414584321 := rfl
/-- An element is itself as an element. -/
theorem redu_of_lt {f x : Int} (h0 : 0 ≤ x) (h : x < M f) : redu f x = x := by
  unfold redu
  split
  · rename_i hf
    subst hf
    rw [M1] at *
    unfold lo
    omega
  · exact Int.emod_eq_of_lt h0 h
theorem redu_redu (f x : Int) : redu f (redu f x) = redu f x := redu_of_lt (redu_nonneg f x) (redu_lt f x)
/-- Whether bit number i of a number is set. -/
def bitOf (x : Int) (i : Nat) : Bool := decide (x / 2 ^ i % 2 = 1)
theorem half_bound {x : Int} (h : 0 ≤ x) (k : Nat) : 0 ≤ x / 2 ^ k ∧ x / 2 ^ k ≤ x := by
  have hp : (0 : Int) < 2 ^ k := Int.pow_pos (by omega)
  exact ⟨Int.ediv_nonneg h (Int.le_of_lt hp), Int.ediv_le_self _ h⟩
/-- A product, as far as the upper bits go. -/
def mulTo (f x y : Int) (k : Nat) : Int := redu f x * (redu f y / 2 ^ k) % M f
/-- A power, as far as the exponent's upper bits go. -/
def pow (f x : Int) (n : Nat) : Int := redu f x ^ n % M f
def powTo (f x n : Int) (k : Nat) : Int := pow f x (n / 2 ^ k).toNat
theorem pow_bound (f x : Int) (n : Nat) : 0 ≤ pow f x n ∧ pow f x n < M f := ⟨Int.emod_nonneg _ (by have := M_pos f; omega), Int.emod_lt_of_pos _ (M_pos f)⟩
theorem mul_pow (f x : Int) (a b : Nat) : mul f (pow f x a) (pow f x b) = pow f x (a + b) := by
  have ha := pow_bound f x a
  have hb := pow_bound f x b
  unfold mul
  rw [redu_of_lt ha.1 ha.2, redu_of_lt hb.1 hb.2]
  unfold pow
  rw [← Int.mul_emod, ← Int.pow_add]
theorem lo_of_lt {a : Int} (h0 : 0 ≤ a) (h1 : a < 18446744073709551616) : lo a = a := by unfold lo; omega
theorem hi_of_lt {a : Int} (h0 : 0 ≤ a) (h1 : a < 18446744073709551616) : hi a = 0 := by unfold hi; omega
theorem gredu {a : Int} (h0 : 0 ≤ a) (h1 : a < 18446744073709551616) : redu 1 a = a % 18446744069414584321 := by
  unfold redu; rw [if_pos rfl, lo_of_lt h0 h1, M1]
theorem gredu_big {a : Int} (h : 18446744069414584321 ≤ a) (h1 : a < 18446744073709551616) : redu 1 a = a - 18446744069414584321 := by
  rw [gredu (by omega) h1]; omega
theorem gredu_small {a : Int} (h0 : 0 ≤ a) (h : a < 18446744069414584321) : redu 1 a = a := by
  rw [gredu h0 (by omega)]; omega
theorem gsub_less {a b : Int} (h : redu 1 a < redu 1 b) : sub 1 a b = 18446744069414584321 - (redu 1 b - redu 1 a) := by
  have := redu_nonneg 1 a
  have := redu_lt 1 b
  unfold sub
  rw [M1] at *
  omega
theorem gsub_more {a b : Int} (h : redu 1 b ≤ redu 1 a) : sub 1 a b = redu 1 a - redu 1 b := by
  have := redu_nonneg 1 b
  have := redu_lt 1 a
  unfold sub
  rw [M1] at *
  omega
theorem gadd_eq (a b : Int) : sub 1 a (neg 1 b) = add 1 a b := by
  have h := neg_bound 1 b
  have h2 := redu_nonneg 1 a
  have h3 := redu_lt 1 a
  have h4 := redu_nonneg 1 b
  have h5 := redu_lt 1 b
  unfold sub add
  rw [redu_of_lt h.1 h.2]
  unfold neg at *
  rw [M1] at *
  omega
theorem mul_high {x y : Nat} (hx : x < 18446744073709551616) (hy : y < 18446744073709551616) : x * y / 18446744073709551616 < 18446744073709551616 :=
  Nat.div_lt_of_lt_mul (Nat.lt_of_le_of_lt (Nat.mul_le_mul_left x (Nat.le_of_lt hy)) ((Nat.mul_lt_mul_right (by omega)).2 hx))
theorem gmul_eq (x y : Nat) (hx : x < 18446744073709551616) (hy : y < 18446744073709551616) :
    (((x * y / 18446744073709551616 : Nat) : Int) * 18446744073709551616 + ((x * y % 18446744073709551616 : Nat) : Int)) % 18446744069414584321 = mul 1 x y := by
  unfold mul
  rw [gredu (by omega) (by omega), gredu (by omega) (by omega), M1, ← Int.mul_emod, ← Int.natCast_mul]
  generalize x * y = z
  omega
/-- What a power's loop knows. -/
def PowInv (a n p b m : Int) : Prop := p * redu 1 b ^ m.toNat % M 1 = pow 1 a n.toNat ∧ 0 ≤ p ∧ p < M 1 ∧ 0 ≤ b ∧ b < 18446744073709551616 ∧ 0 ≤ m ∧ m < 18446744073709551616
theorem powinv_start {a n : Int} (h0 : 0 ≤ a) (h1 : a < 18446744073709551616) (h2 : 0 ≤ n) (h3 : n < 18446744073709551616) : PowInv a n 1 a n :=
  ⟨by unfold pow; rw [Int.one_mul], by omega, by rw [M1]; omega, h0, h1, h2, h3⟩
theorem powinv_end {a n p b m : Int} (h : PowInv a n p b m) (hm : m ≤ 0) : p = pow 1 a n.toNat := by
  obtain ⟨h1, h2, h3, _⟩ := h
  rw [← h1, show m.toNat = 0 by omega, Int.pow_zero, Int.mul_one, Int.emod_eq_of_lt h2 h3]
theorem pow_emod (x m : Int) (k : Nat) : (x % m) ^ k % m = x ^ k % m := by
  induction k with
  | zero => rw [Int.pow_zero, Int.pow_zero]
  | succ k ih => rw [Int.pow_succ, Int.pow_succ, Int.mul_emod, ih, Int.emod_emod, ← Int.mul_emod]
theorem square_pow (b : Int) (k : Nat) : redu 1 (mul 1 b b) ^ k % M 1 = redu 1 b ^ (2 * k) % M 1 := by
  have h := mul_bound 1 b b
  rw [redu_of_lt h.1 h.2]
  unfold mul
  rw [pow_emod, Int.pow_mul, Int.pow_succ, Int.pow_succ, Int.pow_zero, Int.one_mul]
theorem powinv_even {a n p b m : Int} (h : PowInv a n p b m) (hm : 0 < m) (he : m % 2 = 0) : PowInv a n p (mul 1 b b) (m / 2) := by
  obtain ⟨h1, h2, h3, h4, h5, h6, h7⟩ := h
  have hb := mul_bound 1 b b
  refine ⟨?_, h2, h3, hb.1, by rw [M1] at hb; omega, by omega, by omega⟩
  rw [← h1, Int.mul_emod, square_pow, ← Int.mul_emod]
  congr 3
  omega
theorem powinv_odd {a n p b m : Int} (h : PowInv a n p b m) (hm : 0 < m) (ho : m % 2 = 1) : PowInv a n (mul 1 p b) (mul 1 b b) (m / 2) := by
  obtain ⟨h1, h2, h3, h4, h5, h6, h7⟩ := h
  have hb := mul_bound 1 b b
  have hp := mul_bound 1 p b
  refine ⟨?_, hp.1, hp.2, hb.1, by rw [M1] at hb; omega, by omega, by omega⟩
  rw [← h1, Int.mul_emod, square_pow, ← Int.mul_emod]
  conv => lhs; unfold mul
  rw [redu_of_lt h2 h3, Int.mul_emod, Int.emod_emod, ← Int.mul_emod, Int.mul_assoc, ← Int.pow_succ']
  congr 3
  omega
theorem and_one {m : Int} (h0 : 0 ≤ m) (h1 : m < 18446744073709551616) : bits .and .u64 m 1 = m % 2 := by
  obtain ⟨n, rfl⟩ := Int.eq_ofNat_of_zero_le h0
  have h := bits_and_u64_nat n 1 (by omega) (by omega)
  have e : n &&& 1 = n % 2 := Nat.and_one_is_mod n
  rw [e] at h
  exact h
theorem sub_less {f a b : Int} (h : redu f a < redu f b) : sub f a b = M f - (redu f b - redu f a) := by
  have := redu_nonneg f a
  have := redu_lt f b
  unfold sub
  rw [← Int.add_emod_right, Int.emod_eq_of_lt (by omega) (by omega)]
  omega
theorem sub_more {f a b : Int} (h : redu f b ≤ redu f a) : sub f a b = redu f a - redu f b := by
  have := redu_nonneg f b
  have := redu_lt f a
  unfold sub
  rw [Int.emod_eq_of_lt (by omega) (by omega)]
theorem sub_neg_add (f a b : Int) : sub f a (neg f b) = add f a b := by
  have h := neg_bound f b
  unfold sub
  rw [redu_of_lt h.1 h.2]
  unfold neg add
  rw [Int.sub_emod, Int.emod_emod, ← Int.sub_emod, Int.sub_neg]
theorem redu_zero (f : Int) : redu f 0 = 0 := redu_of_lt (Int.le_refl 0) (M_pos f)
theorem sub_zero_neg (f a : Int) : sub f 0 a = neg f a := by
  unfold sub neg
  rw [redu_zero, Int.zero_sub]
theorem less_hi {x y : Int} (h : x < y) : hi x ≤ hi y := by unfold hi; omega
theorem less_lo_of {x y : Int} (h : x < y) (h1 : ¬ hi x < hi y) : lo x < lo y := by unfold lo hi at *; omega
theorem not_less_hi {x y : Int} (h : y ≤ x) : ¬ hi x < hi y := by unfold hi; omega
theorem not_less_lo {x y : Int} (h : y ≤ x) (h1 : hi x = hi y) : ¬ lo x < lo y := by unfold lo hi at *; omega
theorem less_val (a0 a1 b0 b1 : Int) (ha : 0 ≤ a0) (ha' : a0 < 18446744073709551616) (hb : 0 ≤ b0) (hb' : b0 < 18446744073709551616) :
    (if a1 = b1 then decide (a0 < b0) else decide (a1 < b1)) = decide (val a0 a1 < val b0 b1) := by
  unfold val
  split
  · subst_vars; simp
  · by_cases h : a1 < b1
    · simp [h]; omega
    · simp [h]; omega
theorem take_eq (a0 a1 b0 b1 : Int) (ha : 0 ≤ a0) (ha' : a0 < 18446744073709551616) (hb : 0 ≤ b0) (hb' : b0 < 18446744073709551616) (h : val b0 b1 ≤ val a0 a1) (hb1 : 0 ≤ b1) (ha1 : a1 < 18446744073709551616) :
    lo (val a0 a1 - val b0 b1) = (a0 - b0) % 18446744073709551616 ∧
    hi (val a0 a1 - val b0 b1) = if a0 < b0 then ((a1 - b1) % 18446744073709551616 - 1) % 18446744073709551616 else (a1 - b1) % 18446744073709551616 := by
  unfold val lo hi at *
  constructor
  · omega
  · split <;> omega
end Go.Proofs.YtebgfelbffgnbaaGreatDoor.F

/-
  Contracts of the reference's elements: which is less, the modulus, differences and sums of two words.
-/
namespace Go.Proofs.YtebgfelbffgnbaaGreatDoor
open Go.RowKit F

theorem less_raw (a0 a1 b0 b1 : Int) (w : World) :
    Calls Tryz.prog 93 #[.agg #[.int .u64 a0, .int .u64 a1], .agg #[.int .u64 b0, .int .u64 b1]] w fun e w' => e = .returned (.bool (if a1 = b1 then decide (a0 < b0) else decide (a1 < b1))) ∧ Below w.heap.size w w' := by
  by_cases h : a1 = b1
  · subst h
    go_enter Tryz.func93, Tryz.ntmps93
    go_wp2
    go_ret
    exact ⟨rfl, ((Below.refl _ _).alloc (Nat.le_refl _) _).alloc (by simp) _⟩
  · go_enter Tryz.func93, Tryz.ntmps93
    go_wp2
    go_ret
    exact ⟨rfl, ((Below.refl _ _).alloc (Nat.le_refl _) _).alloc (by simp) _⟩

theorem less_any (x y : Int) (w : World) :
    Calls Tryz.prog 93 #[.agg #[.int .u64 (lo x), .int .u64 (hi x)], .agg #[.int .u64 (lo y), .int .u64 (hi y)]] w fun e w' => e = .returned (.bool (decide (x < y))) ∧ Below w.heap.size w w' := by
  have h := less_raw (lo x) (hi x) (lo y) (hi y) w
  rw [less_val _ _ _ _ (lo_nonneg _) (lo_lt _) (lo_nonneg _) (lo_lt _), val_lohi, val_lohi] at h
  exact h

theorem p_one (w : World) :
    Calls Tryz.prog 94 #[.int .i64 1] w fun e w' => e = .returned (.agg #[.int .u64 18446744069414584321, .int .u64 0]) ∧ Below w.heap.size w w' := by
  go_enter Tryz.func94, Tryz.ntmps94
  go_wp2
  exact bodyPost_ret (v := .agg #[.int .u64 18446744069414584321, .int .u64 0]) (by simp [results, Tryz.results94, go_sem]) rfl ⟨rfl, ((Below.refl _ _).alloc (Nat.le_refl _) _)⟩

theorem p_else (f : Int) (h : f ≠ 1) (w : World) :
    Calls Tryz.prog 94 #[.int .i64 f] w fun e w' => e = .returned (.agg #[.int .u64 1, .int .u64 18446744073709551588]) ∧ Below w.heap.size w w' := by
  go_enter Tryz.func94, Tryz.ntmps94
  go_wp2
  exact bodyPost_ret (v := .agg #[.int .u64 1, .int .u64 18446744073709551588]) (by simp [results, Tryz.results94, go_sem]) rfl ⟨rfl, ((Below.refl _ _).alloc (Nat.le_refl _) _)⟩

theorem p_any (f : Int) (w : World) :
    Calls Tryz.prog 94 #[.int .i64 f] w fun e w' => e = .returned (.agg #[.int .u64 (lo (M f)), .int .u64 (hi (M f))]) ∧ Below w.heap.size w w' := by
  by_cases h : f = 1
  · subst h; exact p_one w
  · have h' := p_else f h w
    rw [show lo (M f) = 1 from by unfold M lo; rw [if_neg h]; decide, show hi (M f) = 18446744073709551588 from by unfold M hi; rw [if_neg h]; decide]
    exact h'

theorem take_raw (a0 a1 b0 b1 : Int) (w : World) :
    Calls Tryz.prog 95 #[.agg #[.int .u64 a0, .int .u64 a1], .agg #[.int .u64 b0, .int .u64 b1]] w fun e w' => e = .returned (.agg #[.int .u64 (IntKind.u64.wrap (a0 - b0)), .int .u64 (if a0 < b0 then IntKind.u64.wrap (IntKind.u64.wrap (a1 - b1) - 1) else IntKind.u64.wrap (a1 - b1))]) ∧ Below w.heap.size w w' := by
  by_cases h : a0 < b0
  · rw [if_pos h]
    go_enter Tryz.func95, Tryz.ntmps95
    go_wp2
    exact bodyPost_ret (v := .agg #[.int .u64 (IntKind.u64.wrap (a0 - b0)), .int .u64 (IntKind.u64.wrap (IntKind.u64.wrap (a1 - b1) - 1))]) (by simp [results, Tryz.results95, go_sem]) rfl
      ⟨rfl, ((((Below.refl _ _).alloc (Nat.le_refl _) _).alloc (by simp) _).alloc (by simp; omega) _).alloc (by simp; omega) _⟩
  · rw [if_neg h]
    go_enter Tryz.func95, Tryz.ntmps95
    go_wp2
    exact bodyPost_ret (v := .agg #[.int .u64 (IntKind.u64.wrap (a0 - b0)), .int .u64 (IntKind.u64.wrap (a1 - b1))]) (by simp [results, Tryz.results95, go_sem]) rfl
      ⟨rfl, ((((Below.refl _ _).alloc (Nat.le_refl _) _).alloc (by simp) _).alloc (by simp; omega) _).alloc (by simp; omega) _⟩

theorem take_any (x y : Int) (hy : 0 ≤ y) (h : y ≤ x) (hx : x < 340282366920938463463374607431768211456) (w : World) :
    Calls Tryz.prog 95 #[.agg #[.int .u64 (lo x), .int .u64 (hi x)], .agg #[.int .u64 (lo y), .int .u64 (hi y)]] w fun e w' => e = .returned (.agg #[.int .u64 (lo (x - y)), .int .u64 (hi (x - y))]) ∧ Below w.heap.size w w' := by
  have h1 := take_eq (lo x) (hi x) (lo y) (hi y) (lo_nonneg _) (lo_lt _) (lo_nonneg _) (lo_lt _) (by rw [val_lohi, val_lohi]; exact h) (by unfold hi; omega) (by unfold hi; omega)
  rw [val_lohi, val_lohi] at h1
  rw [h1.1, h1.2]
  have h2 := take_raw (lo x) (hi x) (lo y) (hi y) w
  simp only [IntKind.wrap_u64] at h2
  exact h2

end Go.Proofs.YtebgfelbffgnbaaGreatDoor

/-
  A law of our own on regions that draw their order: operations that yield one value in whatever world has only new memory beside the world at the region's beginning (loads of older memory, arithmetic, callees that make new memory alone), then new variables, then stores in one forced order: one walk of the textual order serves every order.
-/
namespace Go.Proofs.YtebgfelbffgnbaaGreatDoor.Flow
open Go Go.RowKit

/-- A class of worlds that grows out of W by new memory alone, and that new memory does not leave. -/
structure Lasting (W : World) (C : World → Prop) : Prop where
  some : ∃ w, C w
  old : ∀ w, C w → Below W.heap.size W w
  on : ∀ w w', C w → Below w.heap.size w w' → C w'

section
variable {P : Program} {ops : Array Oper} {md : Region.Mode} {W : World} {objs : Nat → Obj} {n m : Nat}

/-- The world has the new blocks that F names. -/
def Has (W : World) (objs : Nat → Obj) (F : List (Nat × Nat)) (w : World) : Prop :=
  Below W.heap.size W w ∧ ∀ x, x ∈ F → w.heap[x.2]? = some (objs x.1)

theorem lt_of_get {w : World} {k : Nat} {o : Obj} (h : w.heap[k]? = some o) : k < w.heap.size := (Array.getElem?_eq_some_iff.1 h).1

theorem Has.lasting {F : List (Nat × Nat)} {w : World} (h : Has W objs F w) : Lasting W (Has W objs F) where
  some := ⟨w, h⟩
  old := fun _ h => h.1
  on := fun _ _ h hb => ⟨h.1.trans (hb.mono h.1.size), fun x hx => (hb.block x.2 (lt_of_get (h.2 x hx))).trans (h.2 x hx)⟩

/-- The operation makes a new block. -/
def New (P : Program) (ops : Array Oper) (o : Oper) (obj : Obj) (a : Act) : Prop :=
  Region.wanted o (yielded ops a.tmps) = true ∧ ∀ (a : Act) (w : World), (execOp a.eval o).run P w = .ok (.value (.pointer (some ⟨w.heap.size, 0, none⟩))) (w.alloc obj)

/-- Operation number i comes up: one of the first n yields its value, one of the next makes its block. -/
def flOp (P : Program) (ops : Array Oper) (W : World) (objs : Nat → Obj) (n : Nat) (i : Nat) (K : Act → List (Nat × Nat) → Prop) (a : Act) (F : List (Nat × Nat)) : Prop :=
  ∃ o, ops[i]? = some o ∧
    if i < n then ∃ v, (∀ C, Lasting W C → YieldsIn P ops C o v a) ∧ K (a.put o.dst v) F
    else New P ops o (objs i) a ∧ ∀ b, W.heap.size ≤ b → (∀ x, x ∈ F → x.2 ≠ b) → K (a.put o.dst (.pointer (some ⟨b, 0, none⟩))) ((i, b) :: F)

def wpAnyF (P : Program) (md : Region.Mode) (ops : Array Oper) (W : World) (objs : Nat → Obj) (n m : Nat) (L : Array Bool → Act → List (Nat × Nat) → Prop) : Nat → Array Bool → Act → List (Nat × Nat) → Prop
  | 0, listed, a, F => L listed a F
  | f + 1, listed, a, F =>
    Region.ready md ops listed ≠ [] ∧ ∀ i, i ∈ Region.ready md ops listed → i < m ∧ flOp P ops W objs n i (wpAnyF P md ops W objs n m L f (listed.setIfInBounds i true)) a F

theorem wpAnyF_same {L : Array Bool → Act → List (Nat × Nat) → Prop} (hL : ∀ l a F G, (∀ x, x ∈ F ↔ x ∈ G) → L l a F → L l a G) :
    ∀ (f : Nat) (listed : Array Bool) (a : Act) (F G : List (Nat × Nat)), (∀ x, x ∈ F ↔ x ∈ G) → wpAnyF P md ops W objs n m L f listed a F → wpAnyF P md ops W objs n m L f listed a G
  | 0, _, _, _, _, hFG, h => hL _ _ _ _ hFG h
  | f + 1, listed, a, F, G, hFG, h => by
    refine ⟨h.1, fun i hi => ⟨(h.2 i hi).1, ?_⟩⟩
    obtain ⟨o, ho, hh⟩ := (h.2 i hi).2
    refine ⟨o, ho, ?_⟩
    split
    · rename_i hin
      rw [if_pos hin] at hh
      obtain ⟨v, h1, h2⟩ := hh
      exact ⟨v, h1, wpAnyF_same hL f _ _ F G hFG h2⟩
    · rename_i hin
      rw [if_neg hin] at hh
      refine ⟨hh.1, fun b hb hG => wpAnyF_same hL f _ _ ((i, b) :: F) _ (fun x => ?_) (hh.2 b hb (fun x hx => hG x ((hFG x).1 hx)))⟩
      rw [List.mem_cons, List.mem_cons, hFG x]

/-- It is a wpAny, in every world that has the blocks. -/
theorem wpAny_of_flow {L : Array Bool → Act → List (Nat × Nat) → Prop} {Q : Exit → Act → World → Prop} {g : Nat} (hL : ∀ listed a F w, Has W objs F w → L listed a F → wpAny P md ops Q g listed a w) :
    ∀ (f : Nat) (listed : Array Bool) (a : Act) (F : List (Nat × Nat)) (w : World), Has W objs F w → wpAnyF P md ops W objs n m L f listed a F → wpAny P md ops Q (f + g) listed a w
  | 0, listed, a, F, w, hw, h => by rw [Nat.zero_add]; exact hL _ _ _ _ hw h
  | f + 1, listed, a, F, w, hw, h => by
    rw [show f + 1 + g = (f + g) + 1 by omega]
    refine ⟨fun h0 => absurd h0 h.1, fun i hi => ?_⟩
    obtain ⟨o, ho, hh⟩ := (h.2 i hi).2
    by_cases hin : i < n
    · rw [if_pos hin] at hh
      obtain ⟨v, h1, h2⟩ := hh
      have hq : qOp P ops (Has W objs F) i (fun a' => a' = a.put o.dst v) a := (h1 _ (Has.lasting hw)).qOp ho rfl
      exact wpOp_of_qOp hw (fun a' w' hw' he => by subst he; exact wpAny_of_flow hL f _ _ F w' hw' h2) hq
    · rw [if_neg hin] at hh
      obtain ⟨⟨hwant, hrun⟩, h2⟩ := hh
      unfold wpOp
      simp only [ho, hwant, if_true]
      refine .inl ?_
      unfold Oper.wp
      rw [hrun a w]
      have hlt : ∀ x, x ∈ F → x.2 < w.heap.size := fun x hx => lt_of_get (hw.2 x hx)
      refine wpAny_of_flow hL f _ _ ((i, w.heap.size) :: F) _ ⟨hw.1.alloc hw.1.size _, fun x hx => ?_⟩ (h2 w.heap.size hw.1.size (fun x hx => Nat.ne_of_lt (hlt x hx)))
      rcases List.mem_cons.1 hx with rfl | hx
      · exact heap_alloc_new w _
      · rw [Below.heap_alloc w _ _ (hlt x hx)]; exact hw.2 x hx

theorem yields_put {oi oj : Oper} {v u : Value} {C : World → Prop} {a : Act} (hap : oi.apart ops oj = true) (hsj : ∀ cs b, oj.op ≠ .select cs b)
    (h : YieldsIn P ops C oj u (a.put oi.dst v)) : YieldsIn P ops C oj u a :=
  h.of_same (execOp_put oj hsj a oi.dst v (Oper.apart_spec hap).1).symm (wanted_put oj a oi.dst v (Oper.apart_spec hap).1).symm

theorem yields_put_back {oi oj : Oper} {v u : Value} {C : World → Prop} {a : Act} (hap : oi.apart ops oj = true) (hsi : ∀ cs b, oi.op ≠ .select cs b)
    (h : YieldsIn P ops C oi v a) : YieldsIn P ops C oi v (a.put oj.dst u) :=
  h.of_same (execOp_put oi hsi a oj.dst u (Oper.apart_spec hap).2.2) (wanted_put oi a oj.dst u (Oper.apart_spec hap).2.2)

/-- What may come up next is one of the first m, till all of these have. -/
def Heads (md : Region.Mode) (ops : Array Oper) (m : Nat) (listed : Array Bool) : Prop := ∀ i, i < m → listed.getD i true = false → ∀ j, j ∈ Region.ready md ops listed → j < m

theorem hnot_of {i : Nat} {listed : Array Bool} {oj : Oper} (hr : i ∈ Region.ready md ops listed) (hall : ∀ e ∈ oj.after, Region.binds md e = true → listed.getD e.on false = true) :
    ∀ e ∈ oj.after, Region.binds md e = true → e.on ≠ i := fun e he hb heq => by
  have h1 := hall e he hb
  rw [heq, getD_both (mem_ready.1 hr).1] at h1
  cases h1

/-- An operation that yields one value may be taken first. -/
theorem val_first {L : Array Bool → Act → List (Nat × Nat) → Prop} {i : Nat} {oi : Oper} {v : Value} (hi : ops[i]? = some oi) (hsel : ∀ (j : Nat) (o : Oper) cs b, ops[j]? = some o → o.op ≠ .select cs b) (hin : i < n) (hnm : n ≤ m)
    (hL : ∀ listed a F, L listed a F → ∀ j, j ∈ Region.ready md ops listed → m ≤ j) (hH : ∀ listed, HeadInv md ops m listed → Heads md ops m listed) :
    ∀ (f : Nat) (listed : Array Bool) (a : Act) (F : List (Nat × Nat)), HeadInv md ops m listed →
      (∀ j oj, ops[j]? = some oj → j ≠ i → listed.getD j true = false → (∀ e ∈ oj.after, Region.binds md e = true → e.on ≠ i) → oi.apart ops oj = true) →
      i ∈ Region.ready md ops listed → (∀ C, Lasting W C → YieldsIn P ops C oi v a) →
      wpAnyF P md ops W objs n m L f (listed.setIfInBounds i true) (a.put oi.dst v) F → wpAnyF P md ops W objs n m L (f + 1) listed a F := by
  intro f
  induction f with
  | zero =>
    intro listed a F inv _ hr hy H
    refine ⟨fun h => (by rw [h] at hr; cases hr), fun j hj => ?_⟩
    have hjm : j < m := hH listed inv i (by omega) (mem_ready.1 hr).1 j hj
    refine ⟨hjm, ?_⟩
    by_cases hji : j = i
    · subst hji; exact ⟨oi, hi, by rw [if_pos hin]; exact ⟨v, hy, H⟩⟩
    · have := hL _ _ _ H j (ready_mono hj hji)
      omega
  | succ f ih =>
    intro listed a F inv hfree hr hy H
    refine ⟨fun h => (by rw [h] at hr; cases hr), fun j hj => ?_⟩
    have hjm : j < m := hH listed inv i (by omega) (mem_ready.1 hr).1 j hj
    refine ⟨hjm, ?_⟩
    by_cases hji : j = i
    · subst hji; exact ⟨oi, hi, by rw [if_pos hin]; exact ⟨v, hy, H⟩⟩
    · obtain ⟨oj, hoj, hh⟩ := (H.2 j (ready_mono hj hji)).2
      obtain ⟨hjun, oj', hoj', hall⟩ := mem_ready.1 hj
      obtain rfl : oj' = oj := Option.some.inj (hoj'.symm.trans hoj)
      have hap := hfree j oj' hoj hji hjun (hnot_of hr hall)
      have hsi := fun cs b => hsel i oi cs b hi
      have hsj := fun cs b => hsel j oj' cs b hoj
      have h2 := (Oper.apart_spec hap).2.1
      have hfree' : ∀ k ok, ops[k]? = some ok → k ≠ i → (listed.setIfInBounds j true).getD k true = false →
          (∀ e ∈ ok.after, Region.binds md e = true → e.on ≠ i) → oi.apart ops ok = true := fun k ok hk hki hun hno => by
        refine hfree k ok hk hki ?_ hno
        by_cases hjk : j = k
        · subst hjk; exact hjun
        · rw [getD_set_ne true hjk] at hun; exact hun
      refine ⟨oj', hoj, ?_⟩
      split
      · rename_i hjn
        rw [if_pos hjn] at hh
        obtain ⟨u, hu, hK⟩ := hh
        refine ⟨u, fun C hC => yields_put hap hsj (hu C hC), ih _ _ F (inv.set hj hjm) hfree' (ready_mono hr (Ne.symm hji)) (fun C hC => yields_put_back hap hsi (hy C hC)) ?_⟩
        rw [Array.setIfInBounds_comm _ _ hji, ← Act.put_comm a v u h2]
        exact hK
      · rename_i hjn
        rw [if_neg hjn] at hh
        obtain ⟨⟨hwant, hrun⟩, hK⟩ := hh
        refine ⟨⟨by rw [← wanted_put oj' a oi.dst v (Oper.apart_spec hap).1]; exact hwant, hrun⟩, fun b hb hF => ih _ _ _ (inv.set hj hjm) hfree' (ready_mono hr (Ne.symm hji)) (fun C hC => yields_put_back hap hsi (hy C hC)) ?_⟩
        rw [Array.setIfInBounds_comm _ _ hji, ← Act.put_comm a v _ h2]
        exact hK b hb hF

theorem fresh_any (B : Nat) : ∀ F : List (Nat × Nat), ∃ b, B ≤ b ∧ ∀ x, x ∈ F → x.2 < b
  | [] => ⟨B, Nat.le_refl _, fun _ h => by cases h⟩
  | y :: F => by
    obtain ⟨b, hb, hF⟩ := fresh_any B F
    refine ⟨b + y.2 + 1, by omega, fun x hx => ?_⟩
    rcases List.mem_cons.1 hx with rfl | hx
    · omega
    · have := hF x hx; omega

/-- Where all that yield values have come up, an operation that makes a block may be taken first. -/
theorem new_first {L : Array Bool → Act → List (Nat × Nat) → Prop} {i : Nat} {oi : Oper} (hi : ops[i]? = some oi) (hin : n ≤ i) (him : i < m)
    (hL : ∀ listed a F, L listed a F → ∀ j, j ∈ Region.ready md ops listed → m ≤ j) (hLs : ∀ l a F G, (∀ x, x ∈ F ↔ x ∈ G) → L l a F → L l a G) (hH : ∀ listed, HeadInv md ops m listed → Heads md ops m listed) :
    ∀ (f : Nat) (listed : Array Bool) (a : Act) (F : List (Nat × Nat)), HeadInv md ops m listed → (∀ k, k < n → listed.getD k true = true) →
      (∀ j oj, ops[j]? = some oj → j ≠ i → listed.getD j true = false → (∀ e ∈ oj.after, Region.binds md e = true → e.on ≠ i) → oi.apart ops oj = true) →
      i ∈ Region.ready md ops listed → New P ops oi (objs i) a →
      (∀ b, W.heap.size ≤ b → (∀ x, x ∈ F → x.2 ≠ b) → wpAnyF P md ops W objs n m L f (listed.setIfInBounds i true) (a.put oi.dst (.pointer (some ⟨b, 0, none⟩))) ((i, b) :: F)) →
      wpAnyF P md ops W objs n m L (f + 1) listed a F := by
  intro f
  induction f with
  | zero =>
    intro listed a F inv _ _ hr hy H
    refine ⟨fun h => (by rw [h] at hr; cases hr), fun j hj => ?_⟩
    have hjm : j < m := hH listed inv i him (mem_ready.1 hr).1 j hj
    refine ⟨hjm, ?_⟩
    by_cases hji : j = i
    · subst hji; exact ⟨oi, hi, by rw [if_neg (by omega)]; exact ⟨hy, H⟩⟩
    · obtain ⟨b, hb, hF⟩ := fresh_any W.heap.size F
      have := hL _ _ _ (H b hb (fun x hx => Nat.ne_of_lt (hF x hx))) j (ready_mono hj hji)
      omega
  | succ f ih =>
    intro listed a F inv hn hfree hr hy H
    refine ⟨fun h => (by rw [h] at hr; cases hr), fun j hj => ?_⟩
    have hjm : j < m := hH listed inv i him (mem_ready.1 hr).1 j hj
    refine ⟨hjm, ?_⟩
    by_cases hji : j = i
    · subst hji; exact ⟨oi, hi, by rw [if_neg (by omega)]; exact ⟨hy, H⟩⟩
    · obtain ⟨hjun, oj, hoj, hall⟩ := mem_ready.1 hj
      have hjn : ¬ j < n := fun h => by rw [hn j h] at hjun; cases hjun
      have hap := hfree j oj hoj hji hjun (hnot_of hr hall)
      have h2 := (Oper.apart_spec hap).2.1
      have hfree' : ∀ k ok, ops[k]? = some ok → k ≠ i → (listed.setIfInBounds j true).getD k true = false →
          (∀ e ∈ ok.after, Region.binds md e = true → e.on ≠ i) → oi.apart ops ok = true := fun k ok hk hki hun hno => by
        refine hfree k ok hk hki ?_ hno
        by_cases hjk : j = k
        · subst hjk; exact hjun
        · rw [getD_set_ne true hjk] at hun; exact hun
      have hn' : ∀ k, k < n → (listed.setIfInBounds j true).getD k true = true := fun k hk => by
        rw [getD_set_ne true (by omega)]; exact hn k hk
      -- what is known of number j behind number i, whichever block i has made
      have key : ∀ b, W.heap.size ≤ b → (∀ x, x ∈ F → x.2 ≠ b) → New P ops oj (objs j) (a.put oi.dst (.pointer (some ⟨b, 0, none⟩))) ∧ ∀ c, W.heap.size ≤ c → (∀ x, x ∈ (i, b) :: F → x.2 ≠ c) →
          wpAnyF P md ops W objs n m L f ((listed.setIfInBounds i true).setIfInBounds j true) ((a.put oi.dst (.pointer (some ⟨b, 0, none⟩))).put oj.dst (.pointer (some ⟨c, 0, none⟩))) ((j, c) :: (i, b) :: F) := fun b hb hF => by
        obtain ⟨oj', hoj', hh⟩ := ((H b hb hF).2 j (ready_mono hj hji)).2
        obtain rfl : oj' = oj := Option.some.inj (hoj'.symm.trans hoj)
        rw [if_neg hjn] at hh
        exact hh
      refine ⟨oj, hoj, ?_⟩
      rw [if_neg hjn]
      obtain ⟨b0, hb0, hF0⟩ := fresh_any W.heap.size F
      have k0 := (key b0 hb0 (fun x hx => Nat.ne_of_lt (hF0 x hx))).1
      refine ⟨⟨by rw [← wanted_put oj a oi.dst _ (Oper.apart_spec hap).1]; exact k0.1, k0.2⟩, fun c hc hFc => ?_⟩
      refine ih _ _ _ (inv.set hj hjm) hn' hfree' (ready_mono hr (Ne.symm hji)) ⟨by rw [wanted_put oi a oj.dst _ (Oper.apart_spec hap).2.2]; exact hy.1, hy.2⟩ (fun b hb hFb => ?_)
      have h3 := (key b hb (fun x hx => hFb x (List.mem_cons_of_mem _ hx))).2 c hc (fun x hx => by
        rcases List.mem_cons.1 hx with rfl | hx
        · exact fun e => hFb (j, c) (List.mem_cons_self) e.symm
        · exact hFc x hx)
      rw [Array.setIfInBounds_comm _ _ hji, ← Act.put_comm a _ _ h2]
      refine wpAnyF_same hLs f _ _ _ _ (fun x => ?_) h3
      simp only [List.mem_cons]
      constructor <;> (rintro (h | h | h) <;> simp [h])

/-- The temporaries that a list of operations fills are all unlike, and lie within the frame. -/
def dstsOK (sz : Nat) : List Oper → Bool
  | [] => true
  | o :: r => (match o.dst with
    | some d => decide (d < sz) && r.all (fun x => x.dst != some d)
    | none => false) && dstsOK sz r

theorem put_size (a : Act) (d : Option Tmp) (v : Value) : (a.put d v).tmps.size = a.tmps.size := by
  cases d <;> simp [Act.put]
theorem put_other {a : Act} {d : Option Tmp} {v : Value} {t : Nat} (h : d ≠ some t) : (a.put d v).tmps[t]? = a.tmps[t]? := by
  cases d with
  | none => rfl
  | some e => exact Array.getElem?_setIfInBounds_ne (fun e' => h (by rw [e']))
theorem put_self {a : Act} {t : Nat} {v : Value} (h : t < a.tmps.size) : (a.put (some t) v).tmps[t]? = some v := by
  simp [Act.put, h]

theorem walk_keeps {C : World → Prop} {A : Act} {t : Nat} : ∀ (l : List Oper) (a : Act), (∀ o, o ∈ l → o.dst ≠ some t) → wpQuiet P ops C (fun a' => a' = A) l a → A.tmps[t]? = a.tmps[t]?
  | [], a, _, h => by rw [show a = A from h]
  | o :: l, a, hl, h => by
    unfold wpQuiet at h
    have hl' : ∀ o, o ∈ l → o.dst ≠ some t := fun o ho => hl o (List.mem_cons_of_mem _ ho)
    have h0 : o.dst ≠ some t := hl o List.mem_cons_self
    split at h
    · obtain ⟨v, _, h2⟩ := h
      rw [walk_keeps l _ hl' h2, put_other h0]
    · rw [walk_keeps l _ hl' h, put_other h0]

theorem walk_step {A a : Act} {o : Oper} {l : List Oper} {t : Nat} (hd : o.dst = some t) (ht : t < a.tmps.size) (hl : ∀ x, x ∈ l → x.dst ≠ some t)
    (h : ∀ C, Lasting W C → wpQuiet P ops C (fun a' => a' = A) (o :: l) a) :
    ∃ v, (∀ C, Lasting W C → YieldsIn P ops C o v a) ∧ ∀ C, Lasting W C → wpQuiet P ops C (fun a' => a' = A) l (a.put o.dst v) := by
  by_cases hw : Region.wanted o (yielded ops a.tmps) = true
  · have key : ∀ C, Lasting W C → ∃ u, A.tmps[t]? = some u ∧ YieldsIn P ops C o u a ∧ wpQuiet P ops C (fun a' => a' = A) l (a.put o.dst u) := fun C hC => by
      have h1 := h C hC
      unfold wpQuiet at h1
      rw [if_pos hw] at h1
      obtain ⟨u, h2, h3⟩ := h1
      refine ⟨u, ?_, .inl ⟨hw, h2⟩, h3⟩
      rw [walk_keeps l _ hl h3, hd, put_self ht]
    obtain ⟨v, hv, _⟩ := key _ (Has.lasting (W := W) (objs := fun _ => .cells #[] 0) (F := []) (w := W) ⟨Below.refl _ _, fun x hx => by cases hx⟩)
    refine ⟨v, fun C hC => ?_, fun C hC => ?_⟩
    · obtain ⟨u, hu, h2, _⟩ := key C hC
      rw [hv] at hu
      rw [Option.some.inj hu]
      exact h2
    · obtain ⟨u, hu, _, h3⟩ := key C hC
      rw [hv] at hu
      rw [Option.some.inj hu]
      exact h3
  · refine ⟨undef, fun C _ => .inr ⟨by simpa using hw, rfl⟩, fun C hC => ?_⟩
    have h1 := h C hC
    unfold wpQuiet at h1
    rw [if_neg hw] at h1
    exact h1

/-- The new variables, one behind the other: whichever blocks they are. -/
def news (B : Nat) (K : Act → List (Nat × Nat) → Prop) : Nat → List Oper → Act → List (Nat × Nat) → Prop
  | _, [], a, F => K a F
  | k, o :: r, a, F => ∀ b, B ≤ b → (∀ x, x ∈ F → x.2 ≠ b) → news B K (k + 1) r (a.put o.dst (.pointer (some ⟨b, 0, none⟩))) ((k, b) :: F)

theorem getD_self (listed : Array Bool) (k : Nat) : (listed.setIfInBounds k true).getD k true = true := by
  by_cases h : k < listed.size <;> simp [h]

theorem news_lex {g : Nat} {Lq : Act → List (Nat × Nat) → Prop} (hLq : ∀ a F G, (∀ x, x ∈ F ↔ x ∈ G) → Lq a F → Lq a G) (hH : ∀ listed, HeadInv md ops m listed → Heads md ops m listed)
    (hN : ∀ k o, n ≤ k → k < m → ops[k]? = some o → o.guard = none ∧ ∀ (a : Act) (w : World), (execOp a.eval o).run P w = .ok (.value (.pointer (some ⟨w.heap.size, 0, none⟩))) (w.alloc (objs k))) :
    ∀ (l : List Oper) (k : Nat) (listed : Array Bool) (a : Act) (F : List (Nat × Nat)), (∀ j, j < l.length → l[j]? = ops[k + j]?) → k + l.length = m → n ≤ k → HeadInv md ops m listed → (∀ i, i < n → listed.getD i true = true) →
      Region.lexHead md ops g l.length k listed = true → news W.heap.size Lq k l a F →
      wpAnyF P md ops W objs n m (fun listed' a' F' => Region.seqB md ops g m listed' = true ∧ Lq a' F') l.length listed a F
  | [], k, listed, a, F, _, hk, _, _, _, hB, h => by
    obtain rfl : k = m := by simpa using hk
    exact ⟨by simpa [Region.lexHead] using hB, h⟩
  | o :: l, k, listed, a, F, hl, hk, hnk, inv, hn, hB, h => by
    have h0 : ops[k]? = some o := by simpa using (hl 0 (by simp)).symm
    simp only [List.length_cons, Region.lexHead, Bool.and_eq_true] at hB
    obtain ⟨⟨hr, hf⟩, hB'⟩ := hB
    have hkm : k < m := by simp only [List.length_cons] at hk; omega
    have hr' : k ∈ Region.ready md ops listed := by simpa using hr
    obtain ⟨hg, hrun⟩ := hN k o hnk hkm h0
    refine new_first h0 hnk hkm (fun listed' a' F' hL => seqB_ready hL.1) (fun _ _ _ _ hFG hL => ⟨hL.1, hLq _ _ _ hFG hL.2⟩) hH l.length listed a F inv hn (Region.free_spec h0 hf) hr' ⟨by simp [Region.wanted, hg], hrun⟩ (fun b hb hF => ?_)
    refine news_lex hLq hH hN l (k + 1) _ _ _ (fun j hj => by have := hl (j + 1) (by simp; omega); simpa [Nat.add_assoc, Nat.add_comm 1 j] using this) (by simp only [List.length_cons] at hk; omega) (by omega) (inv.set hr' hkm) (fun i hi => ?_) hB' (h b hb hF)
    rw [getD_set_ne true (by omega)]
    exact hn i hi

theorem vals_lex {g d : Nat} {Lq : Act → List (Nat × Nat) → Prop} {A : Act} (hsel : Region.noSelect ops = true) (hnm : n ≤ m) (hH : ∀ listed, HeadInv md ops m listed → Heads md ops m listed)
    (hT : ∀ listed, HeadInv md ops m listed → (∀ i, i < n → listed.getD i true = true) → Region.lexHead md ops g d n listed = true →
      wpAnyF P md ops W objs n m (fun listed' a' F' => Region.seqB md ops g m listed' = true ∧ Lq a' F') d listed A []) :
    ∀ (l : List Oper) (k : Nat) (listed : Array Bool) (a : Act), (∀ j, j < l.length → l[j]? = ops[k + j]?) → k + l.length = n → HeadInv md ops m listed → (∀ i, i < k → listed.getD i true = true) →
      Region.lexHead md ops g (l.length + d) k listed = true → dstsOK a.tmps.size l = true → (∀ C, Lasting W C → wpQuiet P ops C (fun a' => a' = A) l a) →
      wpAnyF P md ops W objs n m (fun listed' a' F' => Region.seqB md ops g m listed' = true ∧ Lq a' F') (l.length + d) listed a []
  | [], k, listed, a, _, hk, inv, hn, hB, _, h => by
    obtain rfl : k = n := by simpa using hk
    have e : a = A := h _ (Has.lasting (W := W) (objs := fun _ => .cells #[] 0) (F := []) (w := W) ⟨Below.refl _ _, fun x hx => by cases hx⟩)
    rw [e]
    simp only [List.length_nil, Nat.zero_add] at hB ⊢
    exact hT listed inv hn hB
  | o :: l, k, listed, a, hl, hk, inv, hn, hB, hD, h => by
    have h0 : ops[k]? = some o := by simpa using (hl 0 (by simp)).symm
    have e1 : (o :: l).length + d = (l.length + d) + 1 := by simp only [List.length_cons]; omega
    rw [e1] at hB ⊢
    simp only [Region.lexHead, Bool.and_eq_true] at hB
    obtain ⟨⟨hr, hf⟩, hB'⟩ := hB
    have hkn : k < n := by simp only [List.length_cons] at hk; omega
    have hr' : k ∈ Region.ready md ops listed := by simpa using hr
    cases hd : o.dst with
    | none => simp [dstsOK, hd] at hD
    | some t =>
      simp only [dstsOK, hd, Bool.and_eq_true, decide_eq_true_eq, List.all_eq_true, bne_iff_ne] at hD
      obtain ⟨⟨ht, hne⟩, hD'⟩ := hD
      obtain ⟨v, hy, hrest⟩ := walk_step hd ht hne h
      refine val_first h0 (Region.noSelect_spec hsel) hkn hnm (fun listed' a' F' hL => seqB_ready hL.1) hH (l.length + d) listed a [] inv (Region.free_spec h0 hf) hr' hy ?_
      refine vals_lex hsel hnm hH hT l (k + 1) _ _ (fun j hj => by have := hl (j + 1) (by simp; omega); simpa [Nat.add_assoc, Nat.add_comm 1 j] using this) (by simp only [List.length_cons] at hk; omega) (inv.set hr' (by omega)) (fun i hi => ?_) hB' (by rw [put_size]; exact hD') hrest
      by_cases hik : i = k
      · subst hik; exact getD_self _ _
      · rw [getD_set_ne true (by omega)]; exact hn i (by omega)
end

/-- ONE WALK OF THE TEXTUAL ORDER SERVES EVERY ORDER: the first n operations yield values (wherever there is only new memory beside W), the next ones make new variables, the rest comes in one forced order. -/
theorem wp_region_flow {P : Program} {id : Nat} {Q : Exit → Act → World → Prop} {a : Act} {W : World} {l : List Oper} (n m : Nat) (A : Act) (objs : Nat → Obj) (hm : P.follows .mixedOrders = true) (hnm : n ≤ m)
    (hB : Region.lexTailB .any l.toArray m = true) (hD : dstsOK a.tmps.size (l.take n) = true)
    (hN : ∀ k o, n ≤ k → k < m → l.toArray[k]? = some o → o.guard = none ∧ ∀ (a : Act) (w : World), (execOp a.eval o).run P w = .ok (.value (.pointer (some ⟨w.heap.size, 0, none⟩))) (w.alloc (objs k)))
    (hA : ∀ C, Lasting W.drew C → wpQuiet P l.toArray C (fun a' => a' = A) (l.take n) a)
    (hT : news W.heap.size (fun a' F => ∀ w, Has W.drew objs F w → wpList P l.toArray Q (l.drop m) a' w) n ((l.drop n).take (m - n)) A []) : (Code.region id l.toArray true).wp P Q a W := by
  simp only [Region.lexTailB, Bool.and_eq_true, decide_eq_true_eq] at hB
  obtain ⟨⟨⟨⟨hsel, hms⟩, hs⟩, hc⟩, hlex⟩ := hB
  have hms' : m < l.length := by simpa using hms
  have htl : (l.take n).length = n := by simp; omega
  have htl2 : ((l.drop n).take (m - n)).length = m - n := by simp; omega
  have hdl : (l.drop m).length = l.toArray.size - m := by simp
  have inv0 : HeadInv .any l.toArray m (Array.replicate l.toArray.size false) :=
    ⟨by simp, fun j oj _ hl => (by rw [getD_replicate_false] at hl; cases hl), fun t _ ht => getD_in (by simpa using ht) (getD_replicate_false _ _)⟩
  have hH : ∀ listed, HeadInv .any l.toArray m listed → Heads .any l.toArray m listed := fun listed inv i him hun j hj => by
    rcases Nat.lt_or_ge j m with h | h
    · exact h
    · exact absurd hj (tail_waits hs hc hms inv _ i rfl him hun j h)
  have H := vals_lex (P := P) (md := .any) (ops := l.toArray) (W := W.drew) (objs := objs) (n := n) (m := m) (g := l.toArray.size - m) (d := m - n) (A := A)
    (Lq := fun a' F => ∀ w, Has W.drew objs F w → wpList P l.toArray Q (l.drop m) a' w) hsel hnm hH
    (fun listed inv hn hB => by
      have := news_lex (P := P) (md := .any) (ops := l.toArray) (W := W.drew) (objs := objs) (n := n) (m := m) (g := l.toArray.size - m)
        (Lq := fun a' F => ∀ w, Has W.drew objs F w → wpList P l.toArray Q (l.drop m) a' w)
        (fun a F G hFG h w hw => h w ⟨hw.1, fun x hx => hw.2 x ((hFG x).1 hx)⟩) hH hN ((l.drop n).take (m - n)) n listed A []
        (fun j hj => by
          have : j < m - n := by rw [htl2] at hj; exact hj
          simp [List.getElem?_drop, this]) (by rw [htl2]; omega) (Nat.le_refl _) inv hn (by rw [htl2]; exact hB) hT
      rwa [htl2] at this)
    (l.take n) 0 _ a (fun j hj => by
      have hj' : j < n := by rw [htl] at hj; exact hj
      simp [hj']) (by simpa using htl) inv0 (fun i hi => by omega) (by rw [htl, show n + (m - n) = m by omega]; exact hlex) hD hA
  refine wp_region_any hm ?_
  have := wpAny_of_flow (P := P) (md := .any) (ops := l.toArray) (W := W.drew) (objs := objs) (n := n) (m := m) (Q := Q) (g := l.toArray.size - m) (fun listed a' F w hw hL => by
    have := wpAny_of_seq (md := .any) (Q' := Q) (l.drop m) m listed a' w (fun j => by simp [List.getElem?_drop]) (by rw [hdl]; exact hL.1) (hL.2 w hw)
    rwa [hdl] at this) _ _ _ _ W.drew ⟨Below.refl _ _, fun x hx => by cases hx⟩ H
  rw [htl, show n + (m - n) + (l.toArray.size - m) = l.toArray.size by omega] at this
  exact this

/-- The worlds at hand, as a family: what a walk of one order is shown in. -/
structure Family (W : World) (ι : Type) (φ : ι → World) : Prop where
  old : ∀ i, Below W.heap.size W (φ i)
  on : ∀ i w', Below (φ i).heap.size (φ i) w' → ∃ j, w' = φ j

theorem Family.cell {W : World} {ι : Type} {φ : ι → World} (h : Family W ι φ) {p : Addr} {v : Value} (hc : W.cell? p = some v) (i : ι) : (φ i).cell? p = some v :=
  ((h.old i).cell (World.block_lt_of_cell? W p hc)).trans hc

theorem flow_call {P : Program} {f : FuncId} {args : Array Value} {W : World} {ι : Type} {φ : ι → World} {i : ι} {v : Value} (h : Family W ι φ)
    (hc : Calls P f args (φ i) fun e w' => e = .returned v ∧ Below (φ i).heap.size (φ i) w') : Calls P f args (φ i) fun e w' => e = .returned v ∧ ∃ j, w' = φ j :=
  hc.mono fun _ _ ⟨he, hb⟩ => ⟨he, h.on _ _ hb⟩

theorem family_of {P : Program} {ops : Array Oper} {Q : Act → Prop} {l : List Oper} {a : Act} {W : World}
    (h : ∀ (ι : Type) [Nonempty ι] (φ : ι → World), Family W ι φ → wpQuiet P ops (fun w => ∃ i, w = φ i) Q l a) (C : World → Prop) (hC : Lasting W C) : wpQuiet P ops C Q l a := by
  have e : C = fun w => ∃ i : { w : World // C w }, w = i.val := funext fun w => propext ⟨fun hw => ⟨⟨w, hw⟩, rfl⟩, fun ⟨i, hi⟩ => hi ▸ i.property⟩
  rw [e]
  obtain ⟨w0, h0⟩ := hC.some
  have : Nonempty { w : World // C w } := ⟨⟨w0, h0⟩⟩
  exact h _ _ ⟨fun i => hC.old _ i.property, fun i w' hb => ⟨⟨w', hC.on _ _ i.property hb⟩, rfl⟩⟩

/-- A region without new variables and without stores: behind it the world has new memory alone. -/
theorem wp_region_flow0 {P : Program} {id : Nat} {Q : Exit → Act → World → Prop} {a : Act} {W : World} {l : List Oper} (hm : P.follows .mixedOrders = true) (hB : Region.lexB .any l.toArray = true)
    (h : ∀ (ι : Type) [Nonempty ι] (φ : ι → World), Family W ι φ → wpQuiet P l.toArray (fun w => ∃ i, w = φ i) (fun a' => ∀ w', Below W.heap.size W w' → Q .normal a' w') l a) : (Code.region id l.toArray true).wp P Q a W := by
  have h1 := family_of h (fun w => Below W.heap.size W w) ⟨⟨W, Below.refl _ _⟩, fun _ h => h, fun _ _ h hb => h.trans (hb.mono h.size)⟩
  exact wp_region_quiet (C := fun w => Below W.heap.size W w) hm hB (Below.refl _ _).drew (by simpa using h1)

/-- The same with stores behind it, in one forced order. -/
theorem wp_region_flow1 {P : Program} {id : Nat} {Q : Exit → Act → World → Prop} {a : Act} {W : World} {l : List Oper} (n : Nat) (hm : P.follows .mixedOrders = true)
    (hB : Region.lexTailB .any l.toArray n = true) (hD : dstsOK a.tmps.size (l.take n) = true)
    (h : ∃ A, (∀ (ι : Type) [Nonempty ι] (φ : ι → World), Family W ι φ → wpQuiet P l.toArray (fun w => ∃ i, w = φ i) (fun a' => a' = A) (l.take n) a) ∧
      ∀ w, Below W.heap.size W w → wpList P l.toArray Q (l.drop n) A w) : (Code.region id l.toArray true).wp P Q a W := by
  obtain ⟨A, hA, hT⟩ := h
  refine wp_region_flow n n A (fun _ => .cells #[] 0) hm (Nat.le_refl _) hB hD (fun k o h1 h2 _ => by omega) (family_of fun ι _ φ hφ => hA ι φ ⟨fun i => Below.trans (Below.refl _ _).drew (hφ.old i), hφ.on⟩) ?_
  rw [Nat.sub_self, List.take_zero]
  exact fun w hw => hT w (Below.trans (Below.refl _ _).drew hw.1)

/-- The same with one new variable, and stores behind it. -/
theorem wp_region_flow2 {P : Program} {id : Nat} {Q : Exit → Act → World → Prop} {a : Act} {W : World} {l : List Oper} (n : Nat) (o : Oper) (obj : Obj) (hm : P.follows .mixedOrders = true)
    (hB : Region.lexTailB .any l.toArray (n + 1) = true) (hD : dstsOK a.tmps.size (l.take n) = true) (ho : l[n]? = some o) (hg : o.guard = none)
    (hN : ∀ (a : Act) (w : World), (execOp a.eval o).run P w = .ok (.value (.pointer (some ⟨w.heap.size, 0, none⟩))) (w.alloc obj))
    (h : ∃ A, (∀ (ι : Type) [Nonempty ι] (φ : ι → World), Family W ι φ → wpQuiet P l.toArray (fun w => ∃ i, w = φ i) (fun a' => a' = A) (l.take n) a) ∧
      ∀ w b, Below W.heap.size W w → W.heap.size ≤ b → w.heap[b]? = some obj → wpList P l.toArray Q (l.drop (n + 1)) (A.put o.dst (.pointer (some ⟨b, 0, none⟩))) w) : (Code.region id l.toArray true).wp P Q a W := by
  obtain ⟨A, hA, hT⟩ := h
  refine wp_region_flow n (n + 1) A (fun _ => obj) hm (by omega) hB hD (fun k o' h1 h2 h3 => ?_) (family_of fun ι _ φ hφ => hA ι φ ⟨fun i => Below.trans (Below.refl _ _).drew (hφ.old i), hφ.on⟩) ?_
  · obtain rfl : k = n := by omega
    obtain rfl : o' = o := Option.some.inj (h3.symm.trans (by simpa using ho))
    exact ⟨hg, hN⟩
  · have e : (l.drop n).take (n + 1 - n) = [o] := by
      rw [show n + 1 - n = 1 by omega]
      have h1 : n < l.length := (List.getElem?_eq_some_iff.1 ho).1
      rw [List.drop_eq_getElem_cons h1, (List.getElem?_eq_some_iff.1 ho).2, List.take_succ_cons, List.take_zero]
    rw [e]
    exact fun b hb _ w hw => hT w b (Below.trans (Below.refl _ _).drew hw.1) hb (hw.2 (n, b) List.mem_cons_self)

/-- The same with two new variables, and stores behind them. -/
theorem wp_region_flow3 {P : Program} {id : Nat} {Q : Exit → Act → World → Prop} {a : Act} {W : World} {l : List Oper} (n : Nat) (o1 o2 : Oper) (obj1 obj2 : Obj) (hm : P.follows .mixedOrders = true)
    (hB : Region.lexTailB .any l.toArray (n + 2) = true) (hD : dstsOK a.tmps.size (l.take n) = true) (ho1 : l[n]? = some o1) (hg1 : o1.guard = none) (ho2 : l[n + 1]? = some o2) (hg2 : o2.guard = none)
    (hN1 : ∀ (a : Act) (w : World), (execOp a.eval o1).run P w = .ok (.value (.pointer (some ⟨w.heap.size, 0, none⟩))) (w.alloc obj1))
    (hN2 : ∀ (a : Act) (w : World), (execOp a.eval o2).run P w = .ok (.value (.pointer (some ⟨w.heap.size, 0, none⟩))) (w.alloc obj2))
    (h : ∃ A, (∀ (ι : Type) [Nonempty ι] (φ : ι → World), Family W ι φ → wpQuiet P l.toArray (fun w => ∃ i, w = φ i) (fun a' => a' = A) (l.take n) a) ∧
      ∀ w b c, Below W.heap.size W w → W.heap.size ≤ b → W.heap.size ≤ c → b ≠ c → w.heap[b]? = some obj1 → w.heap[c]? = some obj2 →
        wpList P l.toArray Q (l.drop (n + 2)) ((A.put o1.dst (.pointer (some ⟨b, 0, none⟩))).put o2.dst (.pointer (some ⟨c, 0, none⟩))) w) : (Code.region id l.toArray true).wp P Q a W := by
  obtain ⟨A, hA, hT⟩ := h
  refine wp_region_flow n (n + 2) A (fun k => if k = n then obj1 else obj2) hm (by omega) hB hD (fun k o' h1 h2 h3 => ?_) (family_of fun ι _ φ hφ => hA ι φ ⟨fun i => Below.trans (Below.refl _ _).drew (hφ.old i), hφ.on⟩) ?_
  · have hk : k = n ∨ k = n + 1 := by omega
    rcases hk with rfl | rfl
    · obtain rfl : o' = o1 := Option.some.inj (h3.symm.trans (by simpa using ho1))
      exact ⟨hg1, by simpa using hN1⟩
    · obtain rfl : o' = o2 := Option.some.inj (h3.symm.trans (by simpa using ho2))
      exact ⟨hg2, by simpa using hN2⟩
  · have e : (l.drop n).take (n + 2 - n) = [o1, o2] := by
      rw [show n + 2 - n = 2 by omega]
      have h1 : n < l.length := (List.getElem?_eq_some_iff.1 ho1).1
      have h2 : n + 1 < l.length := (List.getElem?_eq_some_iff.1 ho2).1
      rw [List.drop_eq_getElem_cons h1, (List.getElem?_eq_some_iff.1 ho1).2, List.take_succ_cons, List.drop_eq_getElem_cons h2, (List.getElem?_eq_some_iff.1 ho2).2, List.take_succ_cons, List.take_zero]
    rw [e]
    intro b hb _ c hc hF w hw
    refine hT w b c (Below.trans (Below.refl _ _).drew hw.1) hb hc (fun e => hF (n, b) List.mem_cons_self e) ?_ ?_
    · have := hw.2 (n, b) (by simp)
      simpa using this
    · have := hw.2 (n + 1, c) (by simp)
      simpa using this

/-- A variable of two words, whole. -/
theorem blk2 {w : World} {b : Nat} {u v : Value} {t : TypeId} (h : w.heap[b]? = some (.cells #[u, v] t (0, 0))) :
    w.cell? ⟨b, 0, none⟩ = some u ∧ w.cell? ⟨b, 1, none⟩ = some v ∧ w.frozen? ⟨b, 0, none⟩ = false ∧ w.frozen? ⟨b, 1, none⟩ = false := by
  refine ⟨?_, ?_, ?_, ?_⟩ <;> simp [World.cell?, World.frozen?, h]

theorem alloc_at {w : World} {o : Obj} {k : Nat} (h : k = w.heap.size) : (w.alloc o).heap[k]? = some o := by
  subst h; exact heap_alloc_new w o
theorem alloc_keeps {w : World} {o x : Obj} {k : Nat} (h : w.heap[k]? = some x) : (w.alloc o).heap[k]? = some x :=
  (Below.heap_alloc w o k (lt_of_get h)).trans h
theorem store1 {w : World} {b o : Nat} {c : Array Value} {v : Value} {t : TypeId} {fr : Nat × Nat} (h : w.heap[b]? = some (.cells c t fr)) :
    (w.setCell ⟨b, o, none⟩ v).heap[b]? = some (.cells (c.setIfInBounds o v) t fr) := by
  simp [World.setCell, Array.getElem?_modify, h]
theorem store2 {w : World} {b : Nat} {x y u v : Value} {t : TypeId} (h : w.heap[b]? = some (.cells #[x, y] t (0, 0))) :
    ((w.setCell ⟨b, 0, none⟩ u).setCell ⟨b, 1, none⟩ v).heap[b]? = some (.cells #[u, v] t (0, 0)) :=
  store1 (store1 h)
theorem store_far {w : World} {a : Addr} {k : Nat} {o : Obj} {v : Value} (h : w.heap[k]? = some o) (hk : k ≠ a.block) : (w.setCell a v).heap[k]? = some o :=
  (Below.heap_setCell w a v k hk).trans h
theorem store2_far {w : World} {b k : Nat} {o : Obj} {u v : Value} (h : w.heap[k]? = some o) (hk : k ≠ b) : ((w.setCell ⟨b, 0, none⟩ u).setCell ⟨b, 1, none⟩ v).heap[k]? = some o :=
  store_far (store_far h hk) hk
theorem below_store2 {B : Nat} {a w : World} {b : Nat} {u v : Value} (h : Below B a w) (hb : B ≤ b) : Below B a ((w.setCell ⟨b, 0, none⟩ u).setCell ⟨b, 1, none⟩ v) :=
  (h.setCell (p := ⟨b, 0, none⟩) hb u).setCell (p := ⟨b, 1, none⟩) hb v

theorem keeps {W w : World} (h : Below W.heap.size W w) {b : Nat} {o : Obj} (hb : W.heap[b]? = some o) : w.heap[b]? = some o :=
  (h.block b (lt_of_get hb)).trans hb

/-- The world at hand under a new name, with what is wanted of it. -/
theorem name_wp {P : Program} {c : Code} {Q : Exit → Act → World → Prop} {a : Act} {W : World} (F : World → Prop) (h : F W) (k : ∀ w, F w → c.wp P Q a w) : c.wp P Q a W := k W h

theorem name_calls {P : Program} {f : FuncId} {args : Array Value} {R : Ending → World → Prop} {W : World} (F : World → Prop) (h : F W) (k : ∀ w, F w → Calls P f args w R) : Calls P f args W R := k W h
/-- A callee that makes new memory alone: what it answers, and the world behind it under a new name. -/
theorem call_then {P : Program} {f : FuncId} {args : Array Value} {R : Ending → World → Prop} {W : World} {v : Value} (h : Calls P f args W fun e w' => e = .returned v ∧ Below W.heap.size W w')
    (k : ∀ w, Below W.heap.size W w → R (.returned v) w) : Calls P f args W R := h.mono fun _ _ ⟨he, hb⟩ => by subst he; exact k _ hb

theorem Family.two {W : World} {ι : Type} {φ : ι → World} (h : Family W ι φ) {b : Nat} {u v : Value} {t : TypeId} (hk : W.heap[b]? = some (.cells #[u, v] t (0, 0))) :
    (∀ i, (φ i).cell? ⟨b, 0, none⟩ = some u) ∧ (∀ i, (φ i).cell? ⟨b, 1, none⟩ = some v) :=
  ⟨fun i => (blk2 (keeps (h.old i) hk)).1, fun i => (blk2 (keeps (h.old i) hk)).2.1⟩

theorem below_next {B : Nat} {w w1 w2 : World} (h : Below B w w1) (hB : B ≤ w1.heap.size) (h2 : Below w1.heap.size w1 w2) : Below B w w2 := h.trans (h2.mono hB)
end Go.Proofs.YtebgfelbffgnbaaGreatDoor.Flow

/-
  A law of our own on regions that draw their order, for values that hang on the world: the walk goes in segments: in each, what yields one value wherever there is only new memory is taken first, in an order of our choice; where a single operation is left to come up (a call that answers new memory, a new variable), it is done in the world at hand; stores come at the end, in one forced order.
-/
namespace Go.Proofs.YtebgfelbffgnbaaGreatDoor.Flow
open Go Go.RowKit

/-- Q, and no way out by a panic. -/
def Calm (Q : Exit → Act → World → Prop) : Exit → Act → World → Prop
  | .panic _, _, _ => False
  | e, a, w => Q e a w
theorem Calm.imp {Q : Exit → Act → World → Prop} (e : Exit) (a : Act) (w : World) (h : Calm Q e a w) : Q e a w := by
  cases e <;> first | exact h | exact (h : False).elim

section
variable {P : Program} {ops : Array Oper} {md : Region.Mode} {Q : Exit → Act → World → Prop}

/-- One operation apart from another: the other's value may be put behind it. -/
theorem wpOp_swap {j : Nat} {oi oj : Oper} {v : Value} (hj : ops[j]? = some oj) (hap : oi.apart ops oj = true) (hsj : ∀ cs b, oj.op ≠ .select cs b)
    (hQ : ∀ c a w, ¬ Q (.panic c) a w) {R : Act → Prop} {K : Act → World → Prop} {a : Act} {w : World} (hR : ∀ a u, R a → R (a.put oj.dst u)) (hRd : ∀ (a : Act) d, R a → R { a with defers := d :: a.defers })
    (ha : R a) (h : wpOp P ops Q j K (a.put oi.dst v) w) : wpOp P ops Q j (fun a' w' => R a' ∧ K (a'.put oi.dst v) w') a w := by
  obtain ⟨h1, h2, h3⟩ := Oper.apart_spec hap
  unfold wpOp at *
  simp only [hj] at *
  rw [wanted_put oj a oi.dst v h1] at h
  by_cases hw : Region.wanted oj (yielded ops a.tmps) = true
  · rw [if_pos hw] at h ⊢
    rcases h with h | ⟨hasks, hlets⟩
    · refine .inl ?_
      unfold Oper.wp at *
      rw [execOp_put oj hsj a oi.dst v h1] at h
      generalize (execOp a.eval oj).run P w = r at *
      match r, h with
      | .ok (.value u) w', h => exact ⟨hR _ _ ha, by rw [← Act.put_comm a v u h2]; exact h⟩
      | .ok .skip w', h => exact ⟨hR _ _ ha, by rw [← Act.put_comm a v undef h2]; exact h⟩
      | .ok (.defer d) w', h =>
        refine ⟨hR _ _ (hRd _ _ ha), ?_⟩
        rw [← Act.put_comm _ v undef h2, ← Act.put_defers]
        exact h
      | .ok (.enter f args) w', h =>
        refine Calls.mono h fun e w'' he => ?_
        cases e with
        | returned u => exact ⟨hR _ _ ha, by rw [← Act.put_comm a v u h2]; exact he⟩
        | panicked c => exact (hQ _ _ _ he).elim
        | outgrown => exact he
      | .ok (.row row args) w', h => exact Rows.mono h fun u w'' he => ⟨hR _ _ ha, by rw [← Act.put_comm a v u h2]; exact he⟩
      | .halt x w', h =>
        cases x <;> simp only [Oper.upon] at h ⊢
        case panic u => exact (hQ _ _ _ h).elim
    · exact .inr ⟨by unfold Oper.asks at *; rw [execOp_put oj hsj a oi.dst v h1] at hasks; exact hasks, hlets⟩
  · rw [if_neg hw] at h ⊢
    exact ⟨hR _ _ ha, by rw [← Act.put_comm a v undef h2]; exact h⟩

/-- Whatever order is picked from here on, in whatever world that has new memory beside this one. -/
def wpB (P : Program) (md : Region.Mode) (ops : Array Oper) (Q : Exit → Act → World → Prop) (m : Nat) (L : Array Bool → Act → World → Prop) : Nat → Array Bool → Act → World → Prop
  | 0, listed, a, w => ∀ w1, Below w.heap.size w w1 → L listed a w1
  | f + 1, listed, a, w => ∀ w1, Below w.heap.size w w1 → Region.ready md ops listed ≠ [] ∧ ∀ i, i ∈ Region.ready md ops listed → i < m ∧
      wpOp P ops Q i (fun a' w' => Below w1.heap.size w1 w' ∧ wpB P md ops Q m L f (listed.setIfInBounds i true) a' w') a w1

theorem below_chain {w w1 w2 : World} (h : Below w.heap.size w w1) (h2 : Below w1.heap.size w1 w2) : Below w.heap.size w w2 := h.trans (h2.mono h.size)

variable {m : Nat} {L : Array Bool → Act → World → Prop}
theorem wpB_up {f : Nat} {listed : Array Bool} {a : Act} {w w' : World} (hb : Below w.heap.size w w') (h : wpB P md ops Q m L f listed a w) : wpB P md ops Q m L f listed a w' := by
  cases f with
  | zero => exact fun w1 h1 => h w1 (below_chain hb h1)
  | succ f => exact fun w1 h1 => h w1 (below_chain hb h1)

theorem wpAny_of_B {g : Nat} (hL : ∀ listed a w, L listed a w → wpAny P md ops Q g listed a w) : ∀ (f : Nat) (listed : Array Bool) (a : Act) (w : World), wpB P md ops Q m L f listed a w → wpAny P md ops Q (f + g) listed a w
  | 0, listed, a, w, h => by rw [Nat.zero_add]; exact hL _ _ _ (h w (Below.refl _ _))
  | f + 1, listed, a, w, h => by
    rw [show f + 1 + g = (f + g) + 1 by omega]
    have h1 := h w (Below.refl _ _)
    exact ⟨fun h0 => absurd h0 h1.1, fun i hi => wpOp_mono (fun a' w' hk => wpAny_of_B hL f _ a' w' hk.2) (h1.2 i hi).2⟩

theorem ext_lasting {w w1 : World} (h : Below w.heap.size w w1) : Lasting w (fun x => Below w1.heap.size w1 x) where
  some := ⟨w1, Below.refl _ _⟩
  old := fun _ hx => below_chain h hx
  on := fun _ _ hx hb => below_chain hx hb

/-- What yields one value may be taken first. -/
theorem wpB_first {i : Nat} {oi : Oper} {v : Value} (hi : ops[i]? = some oi) (hsel : ∀ (j : Nat) (o : Oper) cs b, ops[j]? = some o → o.op ≠ .select cs b) (him : i < m)
    (hQ : ∀ c a w, ¬ Q (.panic c) a w) (hL : ∀ listed a w, L listed a w → ∀ j, j ∈ Region.ready md ops listed → m ≤ j) (hH : ∀ listed, HeadInv md ops m listed → Heads md ops m listed) :
    ∀ (f : Nat) (listed : Array Bool) (a : Act) (w : World), HeadInv md ops m listed →
      (∀ j oj, ops[j]? = some oj → j ≠ i → listed.getD j true = false → (∀ e ∈ oj.after, Region.binds md e = true → e.on ≠ i) → oi.apart ops oj = true) →
      i ∈ Region.ready md ops listed → (∀ C, Lasting w C → YieldsIn P ops C oi v a) →
      wpB P md ops Q m L f (listed.setIfInBounds i true) (a.put oi.dst v) w → wpB P md ops Q m L (f + 1) listed a w := by
  intro f
  induction f with
  | zero =>
    intro listed a w inv hfree hr hy H w1 hw1
    refine ⟨fun h => (by rw [h] at hr; cases hr), fun j hj => ?_⟩
    have hjm : j < m := hH listed inv i him (mem_ready.1 hr).1 j hj
    refine ⟨hjm, ?_⟩
    by_cases hji : j = i
    · subst hji
      have hq : qOp P ops (fun x => Below w1.heap.size w1 x) j (fun a' => a' = a.put oi.dst v) a := (hy _ (ext_lasting hw1)).qOp hi rfl
      exact wpOp_of_qOp (Below.refl _ _) (fun a' w' hw' he => by subst he; exact ⟨hw', wpB_up (below_chain hw1 hw') H⟩) hq
    · have := hL _ _ _ (H w1 hw1) j (ready_mono hj hji)
      omega
  | succ f ih =>
    intro listed a w inv hfree hr hy H w1 hw1
    refine ⟨fun h => (by rw [h] at hr; cases hr), fun j hj => ?_⟩
    have hjm : j < m := hH listed inv i him (mem_ready.1 hr).1 j hj
    refine ⟨hjm, ?_⟩
    by_cases hji : j = i
    · subst hji
      have hq : qOp P ops (fun x => Below w1.heap.size w1 x) j (fun a' => a' = a.put oi.dst v) a := (hy _ (ext_lasting hw1)).qOp hi rfl
      exact wpOp_of_qOp (Below.refl _ _) (fun a' w' hw' he => by subst he; exact ⟨hw', wpB_up (below_chain hw1 hw') H⟩) hq
    · obtain ⟨hjun, oj, hoj, hall⟩ := mem_ready.1 hj
      have hap := hfree j oj hoj hji hjun (hnot_of hr hall)
      have h3 := (Oper.apart_spec hap).2.2
      have hsi := fun cs b => hsel i oi cs b hi
      have hfree' : ∀ k ok, ops[k]? = some ok → k ≠ i → (listed.setIfInBounds j true).getD k true = false →
          (∀ e ∈ ok.after, Region.binds md e = true → e.on ≠ i) → oi.apart ops ok = true := fun k ok hk hki hun hno => by
        refine hfree k ok hk hki ?_ hno
        by_cases hjk : j = k
        · subst hjk; exact hjun
        · rw [getD_set_ne true hjk] at hun; exact hun
      have H1 := ((H w1 hw1).2 j (ready_mono hj hji)).2
      refine wpOp_mono (fun a' w' hk => ⟨hk.2.1, ih _ _ _ (inv.set hj hjm) hfree' (ready_mono hr (Ne.symm hji)) (fun C hC => hk.1 C ?_) ?_⟩)
        (wpOp_swap (R := fun a' => ∀ C, Lasting w C → YieldsIn P ops C oi v a') hoj hap (fun cs b => hsel j oj cs b hoj) hQ
          (fun a' u hR C hC => (hR C hC).of_same (execOp_put oi hsi a' oj.dst u h3) (wanted_put oi a' oj.dst u h3)) (fun a' d hR C hC => (hR C hC).of_same rfl rfl) hy H1)
      · rw [Array.setIfInBounds_comm _ _ hji]
        exact hk.2.2
      · have hb := below_chain hw1 hk.2.1
        exact ⟨hC.some, fun x hx => below_chain hb (hC.old x hx), hC.on⟩

/-- These may be taken one behind the other. -/
def takeB (md : Region.Mode) (ops : Array Oper) (m : Nat) : List Nat → Array Bool → Bool
  | [], _ => true
  | i :: r, listed => decide (i < m) && (Region.ready md ops listed).contains i && Region.free md ops listed i && takeB md ops m r (listed.setIfInBounds i true)

def listing (listed : Array Bool) (idx : List Nat) : Array Bool := idx.foldl (fun l i => l.setIfInBounds i true) listed

theorem wpB_batch {A : Act} (hsel : Region.noSelect ops = true) (hQ : ∀ c a w, ¬ Q (.panic c) a w) (hL : ∀ listed a w, L listed a w → ∀ j, j ∈ Region.ready md ops listed → m ≤ j) (hH : ∀ listed, HeadInv md ops m listed → Heads md ops m listed) {f : Nat} {w : World} :
    ∀ (idx : List Nat) (l : List Oper) (listed : Array Bool) (a : Act), idx.map (ops[·]?) = l.map some → takeB md ops m idx listed = true → dstsOK a.tmps.size l = true → HeadInv md ops m listed →
      (∀ C, Lasting w C → wpQuiet P ops C (fun a' => a' = A) l a) → (HeadInv md ops m (listing listed idx) → wpB P md ops Q m L f (listing listed idx) A w) → wpB P md ops Q m L (f + idx.length) listed a w
  | [], l, listed, a, hl, _, _, inv, h, H => by
    obtain rfl : l = [] := by simpa using hl.symm
    have e : a = A := h _ (Has.lasting (W := w) (objs := fun _ => .cells #[] 0) (F := []) (w := w) ⟨Below.refl _ _, fun x hx => by cases hx⟩)
    rw [e]
    exact H inv
  | i :: idx, [], listed, a, hl, _, _, _, _, _ => by simp at hl
  | i :: idx, o :: l, listed, a, hl, hB, hD, inv, h, H => by
    simp only [List.map_cons, List.cons.injEq] at hl
    obtain ⟨ho, hl⟩ := hl
    simp only [takeB, Bool.and_eq_true, decide_eq_true_eq] at hB
    obtain ⟨⟨⟨him, hr⟩, hf⟩, hB'⟩ := hB
    have hr' : i ∈ Region.ready md ops listed := by simpa using hr
    cases hd : o.dst with
    | none => simp [dstsOK, hd] at hD
    | some t =>
      simp only [dstsOK, hd, Bool.and_eq_true, decide_eq_true_eq, List.all_eq_true, bne_iff_ne] at hD
      obtain ⟨⟨ht, hne⟩, hD'⟩ := hD
      obtain ⟨v, hy, hrest⟩ := walk_step hd ht hne h
      rw [show f + (i :: idx).length = (f + idx.length) + 1 by simp only [List.length_cons]; omega]
      exact wpB_first ho (Region.noSelect_spec hsel) him hQ hL hH _ listed a w inv (Region.free_spec ho hf) hr' hy
        (wpB_batch hsel hQ hL hH idx l _ _ hl hB' (by rw [put_size]; exact hD') (inv.set hr' him) hrest H)
end

/-- Where a walk of a region stands: what has come up, how many are to come up ahead of the stores. -/
def Seg (P : Program) (l : List Oper) (Q : Exit → Act → World → Prop) (m f : Nat) (listed : Array Bool) (a : Act) (w : World) : Prop :=
  HeadInv .any l.toArray m listed → wpB P .any l.toArray (Calm Q) m (fun listed' a' w' => Region.seqB .any l.toArray (l.length - m) m listed' = true ∧ wpList P l.toArray (Calm Q) (l.drop m) a' w') f listed a w

/-- The checks on a region whose first m operations are free. -/
def segB (l : List Oper) (m : Nat) : Bool :=
  Region.noSelect l.toArray && (decide (m = l.length) || (decide (m < l.length) && Region.sinkB .any l.toArray m && Region.chainB .any l.toArray m))

theorem heads_of {l : List Oper} {m : Nat} (h : segB l m = true) : Region.noSelect l.toArray = true ∧ ∀ listed, HeadInv .any l.toArray m listed → Heads .any l.toArray m listed := by
  simp only [segB, Bool.and_eq_true, Bool.or_eq_true, decide_eq_true_eq] at h
  refine ⟨h.1, fun listed inv i him hun j hj => ?_⟩
  rcases h.2 with h2 | ⟨⟨h2, hs⟩, hc⟩
  · obtain ⟨_, o, ho, _⟩ := mem_ready.1 hj
    have := (Array.getElem?_eq_some_iff.1 ho).1
    simp at this
    omega
  · rcases Nat.lt_or_ge j m with h | h
    · exact h
    · exact absurd hj (tail_waits hs hc (by simpa using h2) inv _ i rfl him hun j h)

/-- THE BEGINNING. -/
theorem seg_start {P : Program} {id : Nat} {Q : Exit → Act → World → Prop} {a : Act} {W : World} {l : List Oper} (m : Nat) (hm : P.follows .mixedOrders = true) (hml : m ≤ l.length)
    (h : ∀ w, Below W.heap.size W w → Seg P l Q m m (Array.replicate l.length false) a w) : (Code.region id l.toArray true).wp P Q a W := by
  refine Code.wp_mono Calm.imp (wp_region_any hm ?_)
  have inv0 : HeadInv .any l.toArray m (Array.replicate l.length false) :=
    ⟨by simp, fun j oj _ hl => (by rw [getD_replicate_false] at hl; cases hl), fun t _ ht => getD_in (by simpa using ht) (getD_replicate_false _ _)⟩
  have H := wpAny_of_B (g := l.length - m) (fun listed a w hL => by
    have := wpAny_of_seq (md := .any) (Q' := Calm Q) (l.drop m) m listed a w (fun j => by simp [List.getElem?_drop]) (by rw [List.length_drop]; exact hL.1) hL.2
    rwa [List.length_drop] at this) m _ a W.drew (h W.drew (Below.refl _ _).drew inv0)
  rw [show m + (l.length - m) = l.toArray.size by simp; omega] at H
  simpa using H

/-- The operations of these numbers. -/
def pick (l : List Oper) (idx : List Nat) : List Oper := idx.filterMap (l[·]?)
theorem pick_all {l : List Oper} : ∀ {idx : List Nat}, (pick l idx).length = idx.length → idx.map (l[·]?) = (pick l idx).map some
  | [], _ => rfl
  | i :: idx, h => by
    unfold pick at h ⊢
    cases hi : l[i]? with
    | none =>
      have h2 := List.length_filterMap_le (fun x => l[x]?) idx
      have h3 : (List.filterMap (fun x => l[x]?) (i :: idx)).length = (List.filterMap (fun x => l[x]?) idx).length := by rw [List.filterMap_cons_none hi]
      have h4 : (List.filterMap (fun x => l[x]?) (i :: idx)).length = idx.length + 1 := h
      omega
    | some o =>
      rw [List.filterMap_cons_some hi] at h ⊢
      simp only [List.length_cons, Nat.succ.injEq] at h
      rw [List.map_cons, List.map_cons, hi, pick_all h]
      rfl

theorem pick_step {P : Program} {ops : Array Oper} {C : World → Prop} {Q : Act → Prop} {l : List Oper} {i : Nat} {idx : List Nat} {o : Oper} {a : Act} (ho : l[i]? = some o) (h : wpQuiet P ops C Q (o :: pick l idx) a) :
    wpQuiet P ops C Q (pick l (i :: idx)) a := by
  have e : pick l (i :: idx) = o :: pick l idx := List.filterMap_cons_some ho
  rw [e]; exact h
theorem pick_end {P : Program} {ops : Array Oper} {C : World → Prop} {l : List Oper} {a : Act} : wpQuiet P ops C (fun a' => a' = a) (pick l []) a := wpQuiet_nil rfl

/-- SOME YIELD VALUES, wherever there is only new memory. -/
theorem seg_batch {P : Program} {Q : Exit → Act → World → Prop} {a : Act} {w : World} {l : List Oper} {m F : Nat} {listed : Array Bool} (f : Nat) (idx : List Nat) (hS : segB l m = true) (hF : F = f + idx.length)
    (hl : (pick l idx).length = idx.length) (hB : takeB .any l.toArray m idx listed = true) (hD : dstsOK a.tmps.size (pick l idx) = true)
    (h : ∃ A, (∀ (ι : Type) [Nonempty ι] (φ : ι → World), Family w ι φ → wpQuiet P l.toArray (fun x => ∃ i, x = φ i) (fun a' => a' = A) (pick l idx) a) ∧
      ∀ w', Below w.heap.size w w' → Seg P l Q m f (listing listed idx) A w') : Seg P l Q m F listed a w := by
  intro inv
  obtain ⟨A, hA, hT⟩ := h
  obtain ⟨h1, h2⟩ := heads_of hS
  subst hF
  exact wpB_batch h1 (fun c a w h => h) (fun listed a w hL => seqB_ready hL.1) h2 idx (pick l idx) listed a (by simpa using pick_all hl) hB hD inv (family_of hA) (fun inv' => hT w (Below.refl _ _) inv')

/-- ONE ALONE MAY COME UP: it is done in the world at hand. -/
theorem seg_one {P : Program} {Q : Exit → Act → World → Prop} {a : Act} {w : World} {l : List Oper} {m f : Nat} {listed : Array Bool} (i : Nat) (o : Oper) (him : i < m) (ho : l[i]? = some o) (hr : Region.ready .any l.toArray listed = [i])
    (h : ∀ (w1 : World) (K : Act → World → Prop), Below w.heap.size w w1 → (∀ a' w', Below w1.heap.size w1 w' → Seg P l Q m f (listed.setIfInBounds i true) a' w' → K a' w') →
      if Region.wanted o (yielded l.toArray a.tmps) then o.wp P a w1 K (Calm Q) else K (a.put o.dst undef) w1) : Seg P l Q m (f + 1) listed a w := by
  intro inv w1 hw1
  refine ⟨by rw [hr]; simp, fun j hj => ?_⟩
  rw [hr] at hj
  obtain rfl : j = i := by simpa using hj
  refine ⟨him, ?_⟩
  have hj' : j ∈ Region.ready .any l.toArray listed := by rw [hr]; simp
  have hk := h w1 (fun a' w' => Below w1.heap.size w1 w' ∧ wpB P .any l.toArray (Calm Q) m _ f (listed.setIfInBounds j true) a' w') hw1 (fun a' w' hb hs => ⟨hb, hs (inv.set hj' him)⟩)
  unfold wpOp
  have ho' : l.toArray[j]? = some o := by simpa using ho
  simp only [ho']
  split
  · rename_i hw; rw [if_pos hw] at hk; exact .inl hk
  · rename_i hw; rw [if_neg hw] at hk; exact hk

/-- THE STORES, in their forced order. -/
theorem seg_tail {P : Program} {Q : Exit → Act → World → Prop} {a : Act} {w : World} {l : List Oper} {m : Nat} {listed : Array Bool} (hB : Region.seqB .any l.toArray (l.length - m) m listed = true)
    (h : ∀ w1, Below w.heap.size w w1 → wpList P l.toArray (Calm Q) (l.drop m) a w1) : Seg P l Q m 0 listed a w :=
  fun _ w1 hw1 => ⟨hB, h w1 hw1⟩
/-- ALL HAVE COME UP. -/
theorem seg_done {P : Program} {Q : Exit → Act → World → Prop} {a : Act} {w : World} {l : List Oper} {m : Nat} {listed : Array Bool} (hm : m = l.length) (hB : Region.seqB .any l.toArray 0 m listed = true)
    (h : ∀ w1, Below w.heap.size w w1 → Q .normal a w1) : Seg P l Q m 0 listed a w := by
  refine fun _ w1 hw1 => ⟨by rw [hm, Nat.sub_self]; rw [hm] at hB; exact hB, ?_⟩
  rw [hm, List.drop_length]
  exact h w1 hw1
end Go.Proofs.YtebgfelbffgnbaaGreatDoor.Flow

/-
  XSeg once more, for regions that write into memory that they made themselves: the worlds that may come are as the world at hand below a fixed block.
-/
namespace Go.Proofs.YtebgfelbffgnbaaGreatDoor.Flow
open Go Go.RowKit
set_option linter.unusedVariables false

/-- All blocks that were there are as they were, below a fixed one. -/
structure Held (g : Nat) (w w' : World) : Prop where
  os : w'.os = w.os
  tape : w'.tape = w.tape
  output : w'.output = w.output
  size : w.heap.size ≤ w'.heap.size
  block : ∀ k, k < w.heap.size → k < g → w'.heap[k]? = w.heap[k]?
theorem Held.refl (g : Nat) (w : World) : Held g w w := ⟨rfl, rfl, rfl, Nat.le_refl _, fun _ _ _ => rfl⟩
theorem Held.trans {g : Nat} {w w1 w2 : World} (h : Held g w w1) (h2 : Held g w1 w2) : Held g w w2 :=
  ⟨h2.os.trans h.os, h2.tape.trans h.tape, h2.output.trans h.output, Nat.le_trans h.size h2.size, fun k hk hg => (h2.block k (Nat.lt_of_lt_of_le hk h.size) hg).trans (h.block k hk hg)⟩
theorem Held.drew {g : Nat} {w w1 : World} (h : Held g w w1) : Held g w w1.drew := ⟨h.os, h.tape, h.output, h.size, h.block⟩
theorem Held.of_below {g : Nat} {w w1 : World} (h : Below w.heap.size w w1) : Held g w w1 := ⟨h.os, h.tape, h.output, h.size, fun k hk _ => h.block k hk⟩
theorem Held.keeps {g : Nat} {w w1 : World} (h : Held g w w1) {k : Nat} {o : Obj} (hk : w.heap[k]? = some o) (hg : k < g) : w1.heap[k]? = some o := (h.block k (lt_of_get hk) hg).trans hk
structure LastingR (g : Nat) (W : World) (C : World → Prop) : Prop where
  some : ∃ w, C w
  old : ∀ w, C w → Held g W w
  on : ∀ w w', C w → Below w.heap.size w w' → C w'
structure FamilyR (g : Nat) (W : World) (ι : Type) (φ : ι → World) : Prop where
  old : ∀ i, Held g W (φ i)
  on : ∀ i w', Below (φ i).heap.size (φ i) w' → ∃ j, w' = φ j
section
variable {P : Program} {ops : Array Oper} {md : Region.Mode} {W : World} {gb : Nat}
end
section
variable {gb : Nat} {P : Program} {ops : Array Oper} {md : Region.Mode} {Q : Exit → Act → World → Prop}
/-- Whatever order is picked from here on, in whatever world that has new memory beside this one. -/
def wpR (gb : Nat) (P : Program) (md : Region.Mode) (ops : Array Oper) (Q : Exit → Act → World → Prop) (m : Nat) (L : Array Bool → Act → World → Prop) : Nat → Array Bool → Act → World → Prop
  | 0, listed, a, w => ∀ w1, Below w.heap.size w w1 → L listed a w1
  | f + 1, listed, a, w => ∀ w1, Below w.heap.size w w1 → Region.ready md ops listed ≠ [] ∧ ∀ i, i ∈ Region.ready md ops listed → i < m ∧
      wpOp P ops Q i (fun a' w' => Held gb w1 w' ∧ wpR gb P md ops Q m L f (listed.setIfInBounds i true) a' w') a w1


variable {m : Nat} {L : Array Bool → Act → World → Prop}
end

/-- Where a walk of a region stands: what has come up, how many are to come up ahead of the stores. -/
def SegR (gb : Nat) (P : Program) (l : List Oper) (Q : Exit → Act → World → Prop) (m f : Nat) (listed : Array Bool) (a : Act) (w : World) : Prop :=
  HeadInv .any l.toArray m listed → wpR gb P .any l.toArray (Calm Q) m (fun listed' a' w' => Region.seqB .any l.toArray (l.length - m) m listed' = true ∧ wpList P l.toArray (Calm Q) (l.drop m) a' w') f listed a w

end Go.Proofs.YtebgfelbffgnbaaGreatDoor.Flow

/-
  Contracts of the reference's elements: numbers as elements.
-/
namespace Go.Proofs.YtebgfelbffgnbaaGreatDoor
open Go.RowKit F Flow


set_option maxHeartbeats 1000000 in
theorem of_big (f x : Int) (hf : f ≠ 1) (h1 : x < 340282366920938463463374607431768211456) (hc : M f ≤ x) (w : World) :
    Calls Tryz.prog 38 #[.int .i64 f, .agg #[.int .u64 (lo x), .int .u64 (hi x)]] w fun e w' => e = .returned (.agg #[.int .u64 (lo (x - M f)), .int .u64 (hi (x - M f))]) ∧ Below w.heap.size w w' := by
  have hd : decide (x < M f) = false := by simp; omega
  have hM := M_pos f
  go_enter Tryz.func38, Tryz.ntmps38
  go_wp2
  refine wp_region_flow0 (by kernel_rfl) (by kernel_rfl) ?_
  intro ι _ φ hφ
  have c0 := hφ.cell (p := ⟨w.heap.size, 0, none⟩) (v := .int .u64 (lo x)) (by simp)
  have c1 := hφ.cell (p := ⟨w.heap.size, 1, none⟩) (v := .int .u64 (hi x)) (by simp)
  repeat (go_big_quiet_step ((first
    | (go_at_call 94; exact flow_call hφ (p_any f _))
    | (go_at_call 93; exact flow_call hφ (less_any x (M f) _)))))
  refine wpQuiet_nil ?_
  intro w2 hw2
  clear c0 c1 hφ
  have b2 : Below w.heap.size w w2 := (((Below.refl _ _).alloc (Nat.le_refl _) _).alloc (by simp) _).trans (hw2.mono (by simp; omega))
  have k0 : w2.heap[w.heap.size]? = some (.cells #[.int .u64 (lo x), .int .u64 (hi x)] 28 (0, 0)) := keeps hw2 (alloc_keeps (alloc_at rfl))
  have k1 : w2.heap[w.heap.size + 1]? = some (.cells #[.int .u64 0, .int .u64 0] 28 (0, 0)) := keeps hw2 (alloc_at (by simp))
  clear hw2
  obtain ⟨c0, d0, f0, g0⟩ := blk2 k0
  obtain ⟨c1, d1, f1, g1⟩ := blk2 k1
  go_wp2
  refine wp_region_flow1 4 (by kernel_rfl) (by kernel_rfl) (by kernel_rfl) ?_
  apply Exists.intro
  refine ⟨fun ι _ φ hφ => ?_, fun w3 hw3 => ?_⟩
  · have e0 := hφ.cell c0
    have e1 := hφ.cell d0
    simp only [List.take_succ_cons, List.take_zero]
    repeat (go_big_quiet_step ((first
      | (go_at_call 94; exact flow_call hφ (p_any f _))
      | (go_at_call 95; exact flow_call hφ (take_any x (M f) (by omega) hc h1 _)))))
    exact wpQuiet_nil rfl
  · have m1 := keeps hw3 k1
    have b3 := b2.trans (hw3.mono (b2.size))
    clear hw3 c0 d0 f0 g0 c1 d1 f1 g1 k0 k1 b2
    obtain ⟨c1, d1, f1, g1⟩ := blk2 m1
    simp only [List.drop_succ_cons, List.drop_zero]
    go_wp2
    obtain ⟨c2, d2, _, _⟩ := blk2 (store2 (u := .int .u64 (lo (x - M f))) (v := .int .u64 (hi (x - M f))) m1)
    exact bodyPost_ret (v := .agg #[.int .u64 (lo (x - M f)), .int .u64 (hi (x - M f))]) (by simp [results, Tryz.results38, go_sem, c2, d2]) rfl ⟨rfl, below_store2 b3 (by omega)⟩

set_option maxHeartbeats 1000000 in
theorem of_small (f x : Int) (hf : f ≠ 1) (hc : x < M f) (w : World) :
    Calls Tryz.prog 38 #[.int .i64 f, .agg #[.int .u64 (lo x), .int .u64 (hi x)]] w fun e w' => e = .returned (.agg #[.int .u64 (lo x), .int .u64 (hi x)]) ∧ Below w.heap.size w w' := by
  have hd : decide (x < M f) = true := by simpa using hc
  go_enter Tryz.func38, Tryz.ntmps38
  go_wp2
  refine wp_region_flow0 (by kernel_rfl) (by kernel_rfl) ?_
  intro ι _ φ hφ
  have c0 := hφ.cell (p := ⟨w.heap.size, 0, none⟩) (v := .int .u64 (lo x)) (by simp)
  have c1 := hφ.cell (p := ⟨w.heap.size, 1, none⟩) (v := .int .u64 (hi x)) (by simp)
  repeat (go_big_quiet_step ((first
    | (go_at_call 94; exact flow_call hφ (p_any f _))
    | (go_at_call 93; exact flow_call hφ (less_any x (M f) _)))))
  refine wpQuiet_nil ?_
  intro w2 hw2
  clear c0 c1 hφ
  have b2 : Below w.heap.size w w2 := (((Below.refl _ _).alloc (Nat.le_refl _) _).alloc (by simp) _).trans (hw2.mono (by simp; omega))
  have k0 : w2.heap[w.heap.size]? = some (.cells #[.int .u64 (lo x), .int .u64 (hi x)] 28 (0, 0)) := keeps hw2 (alloc_keeps (alloc_at rfl))
  have k1 : w2.heap[w.heap.size + 1]? = some (.cells #[.int .u64 0, .int .u64 0] 28 (0, 0)) := keeps hw2 (alloc_at (by simp))
  clear hw2
  obtain ⟨c0, d0, f0, g0⟩ := blk2 k0
  obtain ⟨c1, d1, f1, g1⟩ := blk2 k1
  go_wp2
  obtain ⟨c2, d2, _, _⟩ := blk2 (store2 (u := .int .u64 (lo x)) (v := .int .u64 (hi x)) k1)
  exact bodyPost_ret (v := .agg #[.int .u64 (lo x), .int .u64 (hi x)]) (by simp [results, Tryz.results38, go_sem, c2, d2]) rfl ⟨rfl, below_store2 b2 (by omega)⟩

theorem less_lo (x y : Int) (w : World) :
    Calls Tryz.prog 93 #[.agg #[.int .u64 (lo x), .int .u64 0], .agg #[.int .u64 (lo y), .int .u64 (hi y)]] w fun e w' => e = .returned (.bool (decide (lo x < y))) ∧ Below w.heap.size w w' := by
  have h := less_any (lo x) y w
  rw [lo_lo, hi_lo] at h
  exact h
theorem take_lo (x y : Int) (hy : 0 ≤ y) (h : y ≤ lo x) (w : World) :
    Calls Tryz.prog 95 #[.agg #[.int .u64 (lo x), .int .u64 0], .agg #[.int .u64 (lo y), .int .u64 (hi y)]] w fun e w' => e = .returned (.agg #[.int .u64 (lo (lo x - y)), .int .u64 (hi (lo x - y))]) ∧ Below w.heap.size w w' := by
  have h := take_any (lo x) y hy h (by have := lo_lt x; omega) w
  rw [lo_lo, hi_lo] at h
  exact h

set_option maxHeartbeats 1000000 in
theorem of_big1 (x z : Int) (hc : M 1 ≤ lo x) (w : World) :
    Calls Tryz.prog 38 #[.int .i64 1, .agg #[.int .u64 (lo x), .int .u64 z]] w fun e w' => e = .returned (.agg #[.int .u64 (lo (lo x - M 1)), .int .u64 (hi (lo x - M 1))]) ∧ Below w.heap.size w w' := by
  have hd : decide (lo x < M 1) = false := by simp; omega
  have hM := M_pos 1
  go_enter Tryz.func38, Tryz.ntmps38
  go_wp2
  refine wp_region_flow0 (by kernel_rfl) (by kernel_rfl) ?_
  intro ι _ φ hφ
  have c0 := hφ.cell (p := ⟨w.heap.size, 0, none⟩) (v := .int .u64 (lo x)) (by simp)
  have c1 := hφ.cell (p := ⟨w.heap.size, 1, none⟩) (v := .int .u64 0) (by simp)
  repeat (go_big_quiet_step ((first
    | (go_at_call 94; exact flow_call hφ (p_any 1 _))
    | (go_at_call 93; exact flow_call hφ (less_lo x (M 1) _)))))
  refine wpQuiet_nil ?_
  intro w2 hw2
  clear c0 c1 hφ
  have b2 : Below w.heap.size w w2 := (((Below.refl _ _).alloc (Nat.le_refl _) _).alloc (by simp) _).trans (hw2.mono (by simp; omega))
  have k0 : w2.heap[w.heap.size]? = some (.cells #[.int .u64 (lo x), .int .u64 0] 28 (0, 0)) := keeps hw2 (alloc_keeps (alloc_at rfl))
  have k1 : w2.heap[w.heap.size + 1]? = some (.cells #[.int .u64 0, .int .u64 0] 28 (0, 0)) := keeps hw2 (alloc_at (by simp))
  clear hw2
  obtain ⟨c0, d0, f0, g0⟩ := blk2 k0
  obtain ⟨c1, d1, f1, g1⟩ := blk2 k1
  go_wp2
  refine wp_region_flow1 4 (by kernel_rfl) (by kernel_rfl) (by kernel_rfl) ?_
  apply Exists.intro
  refine ⟨fun ι _ φ hφ => ?_, fun w3 hw3 => ?_⟩
  · have e0 := hφ.cell c0
    have e1 := hφ.cell d0
    simp only [List.take_succ_cons, List.take_zero]
    repeat (go_big_quiet_step ((first
      | (go_at_call 94; exact flow_call hφ (p_any 1 _))
      | (go_at_call 95; exact flow_call hφ (take_lo x (M 1) (by omega) hc _)))))
    exact wpQuiet_nil rfl
  · have m1 := keeps hw3 k1
    have b3 := b2.trans (hw3.mono (b2.size))
    clear hw3 c0 d0 f0 g0 c1 d1 f1 g1 k0 k1 b2
    obtain ⟨c1, d1, f1, g1⟩ := blk2 m1
    simp only [List.drop_succ_cons, List.drop_zero]
    go_wp2
    obtain ⟨c2, d2, _, _⟩ := blk2 (store2 (u := .int .u64 (lo (lo x - M 1))) (v := .int .u64 (hi (lo x - M 1))) m1)
    exact bodyPost_ret (v := .agg #[.int .u64 (lo (lo x - M 1)), .int .u64 (hi (lo x - M 1))]) (by simp [results, Tryz.results38, go_sem, c2, d2]) rfl ⟨rfl, below_store2 b3 (by omega)⟩

set_option maxHeartbeats 1000000 in
theorem of_small1 (x z : Int) (hc : lo x < M 1) (w : World) :
    Calls Tryz.prog 38 #[.int .i64 1, .agg #[.int .u64 (lo x), .int .u64 z]] w fun e w' => e = .returned (.agg #[.int .u64 (lo x), .int .u64 0]) ∧ Below w.heap.size w w' := by
  have hd : decide (lo x < M 1) = true := by simpa using hc
  go_enter Tryz.func38, Tryz.ntmps38
  go_wp2
  refine wp_region_flow0 (by kernel_rfl) (by kernel_rfl) ?_
  intro ι _ φ hφ
  have c0 := hφ.cell (p := ⟨w.heap.size, 0, none⟩) (v := .int .u64 (lo x)) (by simp)
  have c1 := hφ.cell (p := ⟨w.heap.size, 1, none⟩) (v := .int .u64 0) (by simp)
  repeat (go_big_quiet_step ((first
    | (go_at_call 94; exact flow_call hφ (p_any 1 _))
    | (go_at_call 93; exact flow_call hφ (less_lo x (M 1) _)))))
  refine wpQuiet_nil ?_
  intro w2 hw2
  clear c0 c1 hφ
  have b2 : Below w.heap.size w w2 := (((Below.refl _ _).alloc (Nat.le_refl _) _).alloc (by simp) _).trans (hw2.mono (by simp; omega))
  have k0 : w2.heap[w.heap.size]? = some (.cells #[.int .u64 (lo x), .int .u64 0] 28 (0, 0)) := keeps hw2 (alloc_keeps (alloc_at rfl))
  have k1 : w2.heap[w.heap.size + 1]? = some (.cells #[.int .u64 0, .int .u64 0] 28 (0, 0)) := keeps hw2 (alloc_at (by simp))
  clear hw2
  obtain ⟨c0, d0, f0, g0⟩ := blk2 k0
  obtain ⟨c1, d1, f1, g1⟩ := blk2 k1
  go_wp2
  obtain ⟨c2, d2, _, _⟩ := blk2 (store2 (u := .int .u64 (lo x)) (v := .int .u64 0) k1)
  exact bodyPost_ret (v := .agg #[.int .u64 (lo x), .int .u64 0]) (by simp [results, Tryz.results38, go_sem, c2, d2]) rfl ⟨rfl, below_store2 b2 (by omega)⟩

/-- Of: a number as an element. -/
theorem of_any (f x : Int) (h0 : 0 ≤ x) (h1 : x < 340282366920938463463374607431768211456) (w : World) :
    Calls Tryz.prog 38 #[.int .i64 f, .agg #[.int .u64 (lo x), .int .u64 (hi x)]] w fun e w' => e = .returned (.agg #[.int .u64 (lo (redu f x)), .int .u64 (hi (redu f x))]) ∧ Below w.heap.size w w' := by
  by_cases hf : f = 1
  · subst hf
    by_cases hc : M 1 ≤ lo x
    · rw [redu_big1 hc]; exact of_big1 x _ hc w
    · have h := of_small1 x (hi x) (by omega) w
      rw [redu_small1 (by omega), lo_lo, hi_lo]; exact h
  · by_cases hc : M f ≤ x
    · rw [redu_big hf hc h1]; exact of_big f x hf h1 hc w
    · rw [redu_small hf h0 (by omega)]; exact of_small f x hf (by omega) w
end Go.Proofs.YtebgfelbffgnbaaGreatDoor

/-
  Contracts of the reference's elements: sums, differences.
-/
namespace Go.Proofs.YtebgfelbffgnbaaGreatDoor
open Go.RowKit F Flow


end Go.Proofs.YtebgfelbffgnbaaGreatDoor

/-
  Contracts of the reference's elements: what is 0 less one; differences; bits.
-/
namespace Go.Proofs.YtebgfelbffgnbaaGreatDoor
open Go.RowKit F Flow

theorem run_eql_pair {P : Program} {t e : TypeId} (ht : P.underlying t = some (.array 2 e)) (he : P.underlying e = some (.int .u64)) (hs : ∀ w, (sizeOf e).run P w = .ok 1 w) (a b c d : Int) (w : World) :
    (Op.equalIn 10000 t (.agg #[.int .u64 a, .int .u64 b]) (.agg #[.int .u64 c, .int .u64 d])).run P w = .ok ((a == c) && (b == d)) w := by
  rw [show (10000 : Nat) = 9998 + 2 from rfl, Op.equalIn]
  simp only [Sem.run_bind, run_underlying ht, Result.andThen_ok, hs, Std.Legacy.Range.forIn_eq_forIn_range', Std.Legacy.Range.size, Nat.sub_zero, Nat.add_sub_cancel, Nat.div_one]
  have e1 := run_equalIn_int w 9998 e .u64 .u64 a c he
  have e2 := run_equalIn_int w 9998 e .u64 .u64 b d he
  have p : ∀ (x y : Int), (part e #[.int .u64 x, .int .u64 y] 0).run P w = .ok (.int .u64 x) w := fun x y => by simp [part, isAgg, run_underlying he]
  have q : ∀ (x y : Int), (part e #[.int .u64 x, .int .u64 y] 1).run P w = .ok (.int .u64 y) w := fun x y => by simp [part, isAgg, run_underlying he]
  have h0 : (a == c) = true ∨ (a == c) = false := by cases a == c <;> simp
  have h1 : (b == d) = true ∨ (b == d) = false := by cases b == d <;> simp
  rcases h0 with h0 | h0 <;> rcases h1 with h1 | h1 <;> simp [List.range', p, q, e1, e2, h0, h1]

theorem eql_elem (a b c d : Int) (w : World) : (Op.equalIn 10000 28 (.agg #[.int .u64 a, .int .u64 b]) (.agg #[.int .u64 c, .int .u64 d])).run Tryz.prog w = .ok ((a == c) && (b == d)) w :=
  run_eql_pair Tryz.underlying28 Tryz.underlying26 Tryz.sizeOf26 a b c d w
attribute [local go_sem] eql_elem

end Go.Proofs.YtebgfelbffgnbaaGreatDoor

/-
  Contracts of the reference's elements: products and powers.
-/
namespace Go.Proofs.YtebgfelbffgnbaaGreatDoor
open Go.RowKit F Flow

/-- What a product's loop knows at its head: the two factors, the result's place, and the product so far. -/
def MulInv (w : World) (x y z : Int) (b : Nat) (wr : World) : Prop :=
  Below w.heap.size w wr ∧ wr.heap[w.heap.size]? = some (.cells #[.int .u64 (lo x), .int .u64 (hi x)] 28 (0, 0)) ∧ wr.heap[w.heap.size + 1]? = some (.cells #[.int .u64 (lo y), .int .u64 (hi y)] 28 (0, 0)) ∧
    wr.heap[w.heap.size + 1 + 1]? = some (.cells #[.int .u64 0, .int .u64 0] 28 (0, 0)) ∧ wr.heap[b]? = some (.cells #[.int .u64 (lo z), .int .u64 (hi z)] 28 (0, 0))

theorem MulInv.on {w : World} {x y z : Int} {b : Nat} {w1 w2 : World} (h : MulInv w x y z b w1) (hb : Below w1.heap.size w1 w2) : MulInv w x y z b w2 :=
  ⟨below_next h.1 h.1.size hb, keeps hb h.2.1, keeps hb h.2.2.1, keeps hb h.2.2.2.1, keeps hb h.2.2.2.2⟩
theorem MulInv.put {w : World} {x y z : Int} {b : Nat} {w1 : World} (z' : Int) (h : MulInv w x y z b w1) (hb : w.heap.size + 1 + 1 < b) :
    MulInv w x y z' b ((w1.setCell ⟨b, 0, none⟩ (.int .u64 (lo z'))).setCell ⟨b, 1, none⟩ (.int .u64 (hi z'))) :=
  ⟨below_store2 h.1 (by omega), store2_far h.2.1 (by omega), store2_far h.2.2.1 (by omega), store2_far h.2.2.2.1 (by omega), store2 h.2.2.2.2⟩

end Go.Proofs.YtebgfelbffgnbaaGreatDoor
