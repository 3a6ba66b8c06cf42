/-
  Contracts of package gold: sums, differences, products, powers.
-/
import Derived.Test.YtailpfbdanhpmaaGoldA
namespace Go.Proofs.Ytailpfbdanhpmaa
open Go.RowKit F Flow

theorem ret_u64 {a c : Int} (h1 : a = c) : Ending.returned (.int .u64 a) = Ending.returned (.int .u64 c) := by rw [h1]

theorem gof_any (a : Int) (h0 : 0 ≤ a) (h1 : a < 18446744073709551616) (w : World) :
    Calls Try.prog 46 #[.int .u64 a] w fun e w' => e = .returned (.int .u64 (redu 1 a)) ∧ w = w' := by
  by_cases h : 18446744069414584321 ≤ a
  · have e := Lib.hid (gredu_big h h1)
    go_enter Try.func46, Try.ntmps46
    go_wp2
    go_ret
    exact ⟨ret_u64 e.out.symm, rfl⟩
  · have e := Lib.hid (gredu_small h0 (by omega))
    go_enter Try.func46, Try.ntmps46
    go_wp2
    go_ret
    exact ⟨ret_u64 e.out.symm, rfl⟩

theorem gin_any (a : Int) (w : World) :
    Calls Try.prog 47 #[.int .u64 a] w fun e w' => e = .returned (.bool (decide (a < 18446744069414584321))) ∧ w = w' := by
  go_enter Try.func47, Try.ntmps47
  go_wp2
  go_ret
  exact ⟨rfl, rfl⟩

theorem gneg_any (a : Int) (h0 : 0 ≤ a) (h1 : a < 18446744073709551616) (w : World) :
    Calls Try.prog 35 #[.int .u64 a] w fun e w' => e = .returned (.int .u64 (neg 1 a)) ∧ w = w' := by
  have b0 := redu_nonneg 1 a
  have b1 := redu_lt 1 a
  rw [M1] at b1
  by_cases h : redu 1 a = 0
  · have e := (neg_zero h).trans h
    replace e := Lib.hid e
    have hd : (redu 1 a == 0) = true := by simpa using h
    clear h
    go_enter Try.func35, Try.ntmps35
    go_wp2_with (go_at_call 46; refine (gof_any a h0 h1 _).mono ?_; rintro e w' ⟨rfl, rfl⟩)
    go_ret
    exact ⟨ret_u64 e.out.symm, rfl⟩
  · have e := neg_pos h
    rw [M1] at e
    replace e := Lib.hid e
    have hd : (redu 1 a == 0) = false := by simpa using h
    clear h
    go_enter Try.func35, Try.ntmps35
    go_wp2_with (go_at_call 46; refine (gof_any a h0 h1 _).mono ?_; rintro e w' ⟨rfl, rfl⟩)
    go_ret
    exact ⟨ret_u64 e.out.symm, rfl⟩

theorem gsub_any (a b : Int) (h0 : 0 ≤ a) (h1 : a < 18446744073709551616) (h2 : 0 ≤ b) (h3 : b < 18446744073709551616) (w : World) :
    Calls Try.prog 39 #[.int .u64 a, .int .u64 b] w fun e w' => e = .returned (.int .u64 (sub 1 a b)) ∧ w = w' := by
  have a0 := redu_nonneg 1 a
  have a1 := redu_lt 1 a
  have b0 := redu_nonneg 1 b
  have b1 := redu_lt 1 b
  rw [M1] at a1 b1
  by_cases h : redu 1 a < redu 1 b
  · have e := Lib.hid (gsub_less h)
    go_enter Try.func39, Try.ntmps39
    go_wp2_with (first | (go_at_call 46; refine (gof_any _ (by assumption) (by assumption) _).mono ?_; rintro e w' ⟨rfl, rfl⟩))
    go_ret
    exact ⟨ret_u64 e.out.symm, rfl⟩
  · have e := Lib.hid (gsub_more (by omega : redu 1 b ≤ redu 1 a))
    go_enter Try.func39, Try.ntmps39
    go_wp2_with (first | (go_at_call 46; refine (gof_any _ (by assumption) (by assumption) _).mono ?_; rintro e w' ⟨rfl, rfl⟩))
    go_ret
    exact ⟨ret_u64 e.out.symm, rfl⟩

theorem gadd_any (a b : Int) (h0 : 0 ≤ a) (h1 : a < 18446744073709551616) (h2 : 0 ≤ b) (h3 : b < 18446744073709551616) (w : World) :
    Calls Try.prog 29 #[.int .u64 a, .int .u64 b] w fun e w' => e = .returned (.int .u64 (add 1 a b)) ∧ w = w' := by
  have hn := neg_bound 1 b
  rw [M1] at hn
  have e := Lib.hid (gadd_eq a b)
  go_enter Try.func29, Try.ntmps29
  go_wp2_with (first
    | (go_at_call 35; refine (gneg_any b h2 h3 _).mono ?_; rintro e w' ⟨rfl, rfl⟩)
    | (go_at_call 39; refine (gsub_any a (neg 1 b) h0 h1 hn.1 (by omega) _).mono ?_; rintro e w' ⟨rfl, rfl⟩))
  go_ret
  exact ⟨ret_u64 e.out, rfl⟩

set_option maxHeartbeats 1000000 in
theorem gmul_nat (x y : Nat) (hx : x < 18446744073709551616) (hy : y < 18446744073709551616) (w : World) :
    Calls Try.prog 31 #[.int .u64 x, .int .u64 y] w fun e w' => e = .returned (.int .u64 (mul 1 x y)) ∧ Below w.heap.size w w' := by
  have e := gmul_eq x y hx hy
  have hhi : x * y / 18446744073709551616 < 18446744073709551616 := mul_high hx hy
  have hlo : x * y % 18446744073709551616 < 18446744073709551616 := Nat.mod_lt _ (by omega)
  have hm := Try.bits_Mul64 x y hx hy
  generalize x * y / 18446744073709551616 = p at *
  generalize x * y % 18446744073709551616 = q at *
  replace e := Lib.hid e
  go_enter Try.func31, Try.ntmps31
  go_wp2_with (go_at_call 41; refine (hm _).mono ?_; rintro e w' ⟨rfl, hw⟩; rw [hw])
  refine call_then (rem_any p q (by omega) (by omega) (by omega) (by omega) _) ?_
  intro w1 hw1
  go_wp2
  go_ret
  exact ⟨ret_u64 e.out, hw1⟩

theorem gmul_any (a b : Int) (h0 : 0 ≤ a) (h1 : a < 18446744073709551616) (h2 : 0 ≤ b) (h3 : b < 18446744073709551616) (w : World) :
    Calls Try.prog 31 #[.int .u64 a, .int .u64 b] w fun e w' => e = .returned (.int .u64 (mul 1 a b)) ∧ Below w.heap.size w w' := by
  obtain ⟨x, rfl⟩ := Int.eq_ofNat_of_zero_le h0
  obtain ⟨y, rfl⟩ := Int.eq_ofNat_of_zero_le h2
  exact gmul_nat x y (by omega) (by omega) w


end Go.Proofs.Ytailpfbdanhpmaa
