/-
  Contracts of package gold: sums, differences, products, powers.
-/
import Derived.Test.YtnlnbikiocdpdaaDoorGoldA
namespace Go.Proofs.YtnlnbikiocdpdaaDoor
open Go.RowKit F Flow

theorem ret_u64 {a c : Int} (h1 : a = c) : Ending.returned (.int .u64 a) = Ending.returned (.int .u64 c) := by rw [h1]

theorem gof_any (a : Int) (h0 : 0 ≤ a) (h1 : a < 18446744073709551616) (w : World) :
    Calls Tryd.prog 45 #[.int .u64 a] w fun e w' => e = .returned (.int .u64 (redu 1 a)) ∧ w = w' := by
  by_cases h : 18446744069414584321 ≤ a
  · have e := Lib.hid (gredu_big h h1)
    go_enter Tryd.func45, Tryd.ntmps45
    go_wp2
    go_ret
    exact ⟨ret_u64 e.out.symm, rfl⟩
  · have e := Lib.hid (gredu_small h0 (by omega))
    go_enter Tryd.func45, Tryd.ntmps45
    go_wp2
    go_ret
    exact ⟨ret_u64 e.out.symm, rfl⟩

theorem gneg_any (a : Int) (h0 : 0 ≤ a) (h1 : a < 18446744073709551616) (w : World) :
    Calls Tryd.prog 66 #[.int .u64 a] w fun e w' => e = .returned (.int .u64 (neg 1 a)) ∧ w = w' := by
  have b0 := redu_nonneg 1 a
  have b1 := redu_lt 1 a
  rw [M1] at b1
  by_cases h : redu 1 a = 0
  · have e := (neg_zero h).trans h
    replace e := Lib.hid e
    have hd : (redu 1 a == 0) = true := by simpa using h
    clear h
    go_enter Tryd.func66, Tryd.ntmps66
    go_wp2_with (go_at_call 45; refine (gof_any a h0 h1 _).mono ?_; rintro e w' ⟨rfl, rfl⟩)
    go_ret
    exact ⟨ret_u64 e.out.symm, rfl⟩
  · have e := neg_pos h
    rw [M1] at e
    replace e := Lib.hid e
    have hd : (redu 1 a == 0) = false := by simpa using h
    clear h
    go_enter Tryd.func66, Tryd.ntmps66
    go_wp2_with (go_at_call 45; refine (gof_any a h0 h1 _).mono ?_; rintro e w' ⟨rfl, rfl⟩)
    go_ret
    exact ⟨ret_u64 e.out.symm, rfl⟩

theorem gsub_any (a b : Int) (h0 : 0 ≤ a) (h1 : a < 18446744073709551616) (h2 : 0 ≤ b) (h3 : b < 18446744073709551616) (w : World) :
    Calls Tryd.prog 54 #[.int .u64 a, .int .u64 b] w fun e w' => e = .returned (.int .u64 (sub 1 a b)) ∧ w = w' := by
  have a0 := redu_nonneg 1 a
  have a1 := redu_lt 1 a
  have b0 := redu_nonneg 1 b
  have b1 := redu_lt 1 b
  rw [M1] at a1 b1
  by_cases h : redu 1 a < redu 1 b
  · have e := Lib.hid (gsub_less h)
    go_enter Tryd.func54, Tryd.ntmps54
    go_wp2_with (first | (go_at_call 45; refine (gof_any _ (by assumption) (by assumption) _).mono ?_; rintro e w' ⟨rfl, rfl⟩))
    go_ret
    exact ⟨ret_u64 e.out.symm, rfl⟩
  · have e := Lib.hid (gsub_more (by omega : redu 1 b ≤ redu 1 a))
    go_enter Tryd.func54, Tryd.ntmps54
    go_wp2_with (first | (go_at_call 45; refine (gof_any _ (by assumption) (by assumption) _).mono ?_; rintro e w' ⟨rfl, rfl⟩))
    go_ret
    exact ⟨ret_u64 e.out.symm, rfl⟩

theorem gadd_any (a b : Int) (h0 : 0 ≤ a) (h1 : a < 18446744073709551616) (h2 : 0 ≤ b) (h3 : b < 18446744073709551616) (w : World) :
    Calls Tryd.prog 49 #[.int .u64 a, .int .u64 b] w fun e w' => e = .returned (.int .u64 (add 1 a b)) ∧ w = w' := by
  have hn := neg_bound 1 b
  rw [M1] at hn
  have e := Lib.hid (gadd_eq a b)
  go_enter Tryd.func49, Tryd.ntmps49
  go_wp2_with (first
    | (go_at_call 66; refine (gneg_any b h2 h3 _).mono ?_; rintro e w' ⟨rfl, rfl⟩)
    | (go_at_call 54; refine (gsub_any a (neg 1 b) h0 h1 hn.1 (by omega) _).mono ?_; rintro e w' ⟨rfl, rfl⟩))
  go_ret
  exact ⟨ret_u64 e.out, rfl⟩

set_option maxHeartbeats 1000000 in
theorem gmul_nat (x y : Nat) (hx : x < 18446744073709551616) (hy : y < 18446744073709551616) (w : World) :
    Calls Tryd.prog 47 #[.int .u64 x, .int .u64 y] w fun e w' => e = .returned (.int .u64 (mul 1 x y)) ∧ Below w.heap.size w w' := by
  have e := gmul_eq x y hx hy
  have hhi : x * y / 18446744073709551616 < 18446744073709551616 := mul_high hx hy
  have hlo : x * y % 18446744073709551616 < 18446744073709551616 := Nat.mod_lt _ (by omega)
  have hm := Tryd.bits_Mul64 x y hx hy
  generalize x * y / 18446744073709551616 = p at *
  generalize x * y % 18446744073709551616 = q at *
  replace e := Lib.hid e
  go_enter Tryd.func47, Tryd.ntmps47
  go_wp2_with (go_at_call 62; refine (hm _).mono ?_; rintro e w' ⟨rfl, hw⟩; rw [hw])
  refine call_then (rem_any p q (by omega) (by omega) (by omega) (by omega) _) ?_
  intro w1 hw1
  go_wp2
  go_ret
  exact ⟨ret_u64 e.out, hw1⟩

theorem gmul_any (a b : Int) (h0 : 0 ≤ a) (h1 : a < 18446744073709551616) (h2 : 0 ≤ b) (h3 : b < 18446744073709551616) (w : World) :
    Calls Tryd.prog 47 #[.int .u64 a, .int .u64 b] w fun e w' => e = .returned (.int .u64 (mul 1 a b)) ∧ Below w.heap.size w w' := by
  obtain ⟨x, rfl⟩ := Int.eq_ofNat_of_zero_le h0
  obtain ⟨y, rfl⟩ := Int.eq_ofNat_of_zero_le h2
  exact gmul_nat x y (by omega) (by omega) w


set_option maxHeartbeats 1000000 in
theorem gpow_any (a n : Int) (h0 : 0 ≤ a) (h1 : a < 18446744073709551616) (h2 : 0 ≤ n) (h3 : n < 18446744073709551616) (w : World) :
    Calls Tryd.prog 56 #[.int .u64 a, .int .u64 n] w fun e w' => e = .returned (.int .u64 (pow 1 a n.toNat)) ∧ Below w.heap.size w w' := by
  go_enter Tryd.func56, Tryd.ntmps56
  go_wp2
  go_loopw [0, 1, 5] (fun b m p wr => ∃ B N Q : Int, b = .int .u64 B ∧ m = .int .u64 N ∧ p = .int .u64 Q ∧ PowInv a n Q B N ∧ Below w.heap.size w wr) (fun _ m _ _ => (intOf m).toNat)
  case atStart => exact ⟨a, n, 1, rfl, rfl, rfl, powinv_start h0 h1 h2 h3, Below.refl _ _⟩
  case round =>
    obtain ⟨b, m, p, rfl, rfl, rfl, hi, hb⟩ := hrel
    obtain ⟨i1, i2, i3, i4, i5, i6, i7⟩ := id hi
    rw [M1] at i3
    clear i1
    have hbb := mul_bound 1 b b
    have hpb := mul_bound 1 p b
    rw [M1] at hbb hpb
    by_cases hm : 0 < m
    · have hbit : bits .and .u64 m 1 = m % 2 := and_one i6 i7
      by_cases hodd : m % 2 = 1
      · have ho : (bits .and .u64 m 1 == 1) = true := by rw [hbit, hodd]; rfl
        have hn := powinv_odd hi hm hodd
        clear hbit hodd
        go_wp2_with fail
        refine call_then (gmul_any p b i2 (by omega) i4 i5 _) ?_
        intro w1 hw1
        replace hb := below_next hb hb.size hw1
        clear hw1
        go_wp2_with fail
        refine call_then (gmul_any b b i4 i5 i4 i5 _) ?_
        intro w2 hw2
        replace hb := below_next hb hb.size hw2
        clear hw2
        go_wp2
        go_roundw
        case rel => exact ⟨_, _, _, rfl, rfl, rfl, hn, hb⟩
        case measure => simp [intOf]; omega
      · have ho : (bits .and .u64 m 1 == 1) = false := by rw [hbit]; simpa using hodd
        have hn := powinv_even hi hm (by omega)
        clear hbit hodd
        go_wp2_with fail
        refine call_then (gmul_any b b i4 i5 i4 i5 _) ?_
        intro w2 hw2
        replace hb := below_next hb hb.size hw2
        clear hw2
        go_wp2
        go_roundw
        case rel => exact ⟨_, _, _, rfl, rfl, rfl, hn, hb⟩
        case measure => simp [intOf]; omega
    · have hn := Lib.hid (powinv_end hi (by omega))
      go_wp2
      go_ret
      exact ⟨ret_u64 hn.out, hb⟩
end Go.Proofs.YtnlnbikiocdpdaaDoor
