/-
  Contracts of package wide: halving.
-/
import Derived.Test.YtnlnbikiocdpdaaDoorWideE
import Derived.Laws.BitsAllLaws
namespace Go.Proofs.YtnlnbikiocdpdaaDoor
open Go.RowKit F Flow
set_option linter.unusedVariables false
attribute [local go_sem] eql_elem

theorem shift_low {x : Int} {t : Nat} (h0 : 0 ≤ x) (h1 : x < 340282366920938463463374607431768211456) (ht : t ≤ 64) :
    bits .or .u64 (lo x / 2 ^ t) (IntKind.u64.wrap (hi x * 2 ^ (64 - t))) = lo (x / 2 ^ t) := by
  obtain ⟨n, rfl⟩ := Int.eq_ofNat_of_zero_le h0
  have e1 : lo (n : Int) / 2 ^ t = ((n % 18446744073709551616 / 2 ^ t : Nat) : Int) := by
    unfold lo; rw [Int.natCast_ediv, Int.natCast_emod, Int.natCast_pow]; rfl
  have e2 : IntKind.u64.wrap (hi (n : Int) * 2 ^ (64 - t)) = ((n / 18446744073709551616 * 2 ^ (64 - t) % 18446744073709551616 : Nat) : Int) := by
    have : IntKind.u64.wrap (hi (n : Int) * 2 ^ (64 - t)) = hi (n : Int) * 2 ^ (64 - t) % 18446744073709551616 := by simp [IntKind.wrap, IntKind.bits, IntKind.signed]
    rw [this]; unfold hi; rw [Int.natCast_emod, Int.natCast_mul, Int.natCast_ediv, Int.natCast_pow]; rfl
  have e3 : lo ((n : Int) / 2 ^ t) = ((n / 2 ^ t % 18446744073709551616 : Nat) : Int) := by
    unfold lo; rw [Int.natCast_emod, Int.natCast_ediv, Int.natCast_pow]; rfl
  have hp : (18446744073709551616 : Nat) = 2 ^ t * 2 ^ (64 - t) := by rw [← Nat.pow_add, show t + (64 - t) = 64 by omega]
  have p1 : 0 < 2 ^ t := Nat.pow_pos (by decide)
  have p2 : 0 < 2 ^ (64 - t) := Nat.pow_pos (by decide)
  have l1 : n % 18446744073709551616 / 2 ^ t < 2 ^ (64 - t) := by
    rw [Nat.div_lt_iff_lt_mul p1, Nat.mul_comm, ← hp]; omega
  have l2 : n / 18446744073709551616 * 2 ^ (64 - t) % 18446744073709551616 % 2 ^ (64 - t) = 0 := by
    rw [Nat.mod_mod_of_dvd _ ⟨2 ^ t, by rw [Nat.mul_comm]; exact hp⟩, Nat.mul_mod_left]
  have l3 : 2 ^ (64 - t) ≤ 18446744073709551616 := by rw [hp]; exact Nat.le_mul_of_pos_left _ p1
  rw [e1, e2, e3, u64_or_nat _ _ (by omega) (Nat.mod_lt _ (by decide)), Nat.or_comm, nat_join (64 - t) _ _ l2 l1]
  congr 1
  have k1 : n / 2 ^ t % 18446744073709551616 = (n / 2 ^ t / 2 ^ (64 - t)) % 2 ^ t * 2 ^ (64 - t) + n / 2 ^ t % 2 ^ (64 - t) := by
    rw [hp, Nat.mul_comm (2 ^ t) (2 ^ (64 - t)), Nat.mod_mul, Nat.add_comm, Nat.mul_comm (2 ^ (64 - t))]
  have k2 : n / 2 ^ t / 2 ^ (64 - t) = n / 18446744073709551616 := by rw [Nat.div_div_eq_div_mul, ← hp]
  have k3 : n / 2 ^ t % 2 ^ (64 - t) = n % 18446744073709551616 / 2 ^ t := by
    rw [hp, Nat.mod_mul_right_div_self]
  have k4 : n / 18446744073709551616 * 2 ^ (64 - t) % 18446744073709551616 = n / 18446744073709551616 % 2 ^ t * 2 ^ (64 - t) := by
    conv => lhs; rw [hp]
    rw [Nat.mul_mod_mul_right]
    rw [← hp]
  rw [k1, k2, k3, k4]
theorem shift_high (x : Int) (t : Nat) : hi (x / 2 ^ t) = hi x / 2 ^ t := by
  unfold hi
  rw [Int.ediv_ediv_of_nonneg (Int.le_of_lt (Int.pow_pos (by decide))), Int.mul_comm, ← Int.ediv_ediv_of_nonneg (by decide)]
theorem shift_far {x : Int} {t : Nat} (h0 : 0 ≤ x) (h1 : x < 340282366920938463463374607431768211456) (ht : 64 ≤ t) : hi x / 2 ^ (t - 64) = lo (x / 2 ^ t) ∧ hi (x / 2 ^ t) = 0 := by
  have e : x / 2 ^ t = hi x / 2 ^ (t - 64) := by
    unfold hi
    rw [Int.ediv_ediv_of_nonneg (by decide), show (18446744073709551616 : Int) = 2 ^ 64 from rfl, ← Int.pow_add, show 64 + (t - 64) = t by omega]
  have b := half_bound (hi_nonneg h0) (t - 64)
  have c := hi_lt h1
  rw [e]
  exact ⟨(lo_of_lt b.1 (by omega)).symm, hi_of_lt b.1 (by omega)⟩

theorem wshift_lo (x t : Int) (h0 : 0 ≤ x) (h1 : x < 340282366920938463463374607431768211456) (t0 : 0 ≤ t) (ht : t < 64) (w : World) :
    Calls Tryd.prog 58 #[.agg #[.int .u64 (lo x), .int .u64 (hi x)], .int .u64 t] w fun e w' => e = .returned (.agg #[.int .u64 (lo (x / 2 ^ t.toNat)), .int .u64 (hi (x / 2 ^ t.toNat))]) ∧ Below w.heap.size w w' := by
  have b0 := hi_nonneg h0
  have b1 := hi_lt h1
  have a0 := lo_nonneg x
  have a1 := lo_lt x
  have e1 := shift_low (x := x) (t := t.toNat) h0 h1 (by omega)
  rw [show 64 - t.toNat = (64 - t).toNat by omega] at e1
  replace e1 := Lib.hid e1
  have e2 := Lib.hid (shift_high x t.toNat)
  go_enter Tryd.func58, Tryd.ntmps58
  go_wp2
  rw [e1.out, ← e2.out]
  exact bodyPost_ret (v := .agg #[.int .u64 (lo (x / 2 ^ t.toNat)), .int .u64 (hi (x / 2 ^ t.toNat))]) (by simp [results, Tryd.results58, go_sem]) rfl ⟨rfl, ((Below.refl _ _).alloc (Nat.le_refl _) _).alloc (by simp) _⟩
theorem wshift_hi (x t : Int) (h0 : 0 ≤ x) (h1 : x < 340282366920938463463374607431768211456) (t0 : 64 ≤ t) (ht : t < 128) (w : World) :
    Calls Tryd.prog 58 #[.agg #[.int .u64 (lo x), .int .u64 (hi x)], .int .u64 t] w fun e w' => e = .returned (.agg #[.int .u64 (lo (x / 2 ^ t.toNat)), .int .u64 (hi (x / 2 ^ t.toNat))]) ∧ Below w.heap.size w w' := by
  have b0 := hi_nonneg h0
  have b1 := hi_lt h1
  have e1 := shift_far (x := x) (t := t.toNat) h0 h1 (by omega)
  rw [show t.toNat - 64 = (t - 64).toNat by omega] at e1
  replace e1 := Lib.hid e1
  go_enter Tryd.func58, Tryd.ntmps58
  go_wp2
  rw [e1.out.1, e1.out.2]
  exact bodyPost_ret (v := .agg #[.int .u64 (lo (x / 2 ^ t.toNat)), .int .u64 0]) (by simp [results, Tryd.results58, go_sem]) rfl ⟨rfl, ((Below.refl _ _).alloc (Nat.le_refl _) _).alloc (by simp) _⟩
theorem wshift_any (x t : Int) (h0 : 0 ≤ x) (h1 : x < 340282366920938463463374607431768211456) (t0 : 0 ≤ t) (ht : t < 128) (w : World) :
    Calls Tryd.prog 58 #[.agg #[.int .u64 (lo x), .int .u64 (hi x)], .int .u64 t] w fun e w' => e = .returned (.agg #[.int .u64 (lo (x / 2 ^ t.toNat)), .int .u64 (hi (x / 2 ^ t.toNat))]) ∧ Below w.heap.size w w' := by
  by_cases h : t < 64
  · exact wshift_lo x t h0 h1 t0 h w
  · exact wshift_hi x t h0 h1 (by omega) ht w
theorem wshift_one (x : Int) (h0 : 0 ≤ x) (h1 : x < 340282366920938463463374607431768211456) (w : World) :
    Calls Tryd.prog 58 #[.agg #[.int .u64 (lo x), .int .u64 (hi x)], .int .u64 1] w fun e w' => e = .returned (.agg #[.int .u64 (lo (x / 2)), .int .u64 (hi (x / 2))]) ∧ Below w.heap.size w w' :=
  wshift_any x 1 h0 h1 (by omega) (by omega) w
end Go.Proofs.YtnlnbikiocdpdaaDoor
