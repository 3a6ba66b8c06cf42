/-
  The reference's small functions: turns, a shift register, powers, a round's constant.
-/
import Derived.Test.YtfklkplnbmhddaaDoorKkC
namespace Go.Proofs.YtfklkplnbmhddaaDoor
open Go.RowKit Flow
set_option linter.unusedVariables false
set_option linter.unusedSimpArgs false

theorem rot_lt (n : Nat) (hn : n < 18446744073709551616) : ∀ k, rot n k < 18446744073709551616
  | 0 => hn
  | k + 1 => Nat.mod_lt _ (by decide)
set_option maxHeartbeats 1000000 in
theorem rotate_any (n k : Nat) (hk : k < 64) (hn : n < 18446744073709551616) (w : World) : Calls Tryd.prog 47 #[.int .u64 (n : Int), .int .i64 (k : Int)] w fun e w' => e = .returned (.int .u64 ((rl n k : Nat) : Int)) ∧ Below w.heap.size w w' := by
  have hrl := rot_rl n hn k (by omega)
  have hlt := rot_lt n hn
  have K0 : (0 : Int) ≤ (k : Int) := by omega
  have K1 : (k : Int) < 64 := by omega
  replace hn := Lib.hid hn
  replace hrl := Lib.hid hrl
  replace hlt := Lib.hid hlt
  go_enter Tryd.func47, Tryd.ntmps47
  go_wp2
  go_loop [0, 5] (fun x i => ∃ j : Nat, j ≤ k ∧ i = .int .i64 (j : Int) ∧ x = .int .u64 ((rot n j : Nat) : Int)) (fun _ i => k - (intOf i).toNat)
  case atStart => exact ⟨0, by omega, rfl, rfl⟩
  case round =>
    obtain ⟨j, hj, rfl, rfl⟩ := hrel
    by_cases hjk : j < k
    · have j0 : (0 : Int) ≤ (j : Int) := by omega
      have j1 : (j : Int) < (k : Int) := by omega
      have hr := hlt.out j
      have hs : IntKind.u64.wrap (IntKind.u64.wrap (((rot n j : Nat) : Int) * 2) + IntKind.u64.wrap (((rot n j : Nat) : Int) / 9223372036854775808)) = ((rot n (j + 1) : Nat) : Int) := by
        show _ = (((rot n j * 2 + rot n j / 9223372036854775808) % 18446744073709551616 : Nat) : Int)
        generalize rot n j = R at *
        simp only [IntKind.wrap_u64]
        omega
      have r0 : (0 : Int) ≤ ((rot n j : Nat) : Int) := by omega
      obtain ⟨R1, hR1⟩ : ∃ R1, rot n (j + 1) = R1 := ⟨_, rfl⟩
      rw [hR1] at hs
      replace hR1 := Lib.hid hR1
      replace hr := Lib.hid hr
      generalize rot n j = R at *
      go_wp2
      exact ⟨⟨j + 1, by omega, by go_num, by rw [hR1.out]⟩, left_u (by assumption)⟩
    · obtain rfl : j = k := by omega
      rw [hrl.out]
      go_wp2
      go_ret
      exact ⟨rfl, Below.refl _ _⟩
/-- The shift register. -/
def sh : Nat → Nat
  | 0 => 1
  | k + 1 => if 256 ≤ sh k * 2 then (sh k * 2) ^^^ 369 else sh k * 2
theorem xor369 : ∀ r, r < 512 → 256 ≤ r → r ^^^ 369 < 256 := by decide +kernel
theorem xor369i : ∀ r, r < 512 → bits BinOp.xor IntKind.i64 ((r : Nat) : Int) 369 = ((r ^^^ 369 : Nat) : Int) := by decide +kernel
theorem sh_lt : ∀ k, sh k < 256
  | 0 => by decide
  | k + 1 => by
    have := sh_lt k
    unfold sh
    split
    · exact xor369 _ (by omega) (by assumption)
    · omega
set_option maxHeartbeats 1000000 in
theorem shift_any (s : Nat) (hs : s < 1000000) (w : World) : Calls Tryd.prog 54 #[.int .i64 (s : Int)] w fun e w' => e = .returned (.int .u64 ((sh (s % 255) % 2 : Nat) : Int)) ∧ Below w.heap.size w w' := by
  have K0 : (0 : Int) ≤ (s : Int) := by omega
  have em : (s : Int).tmod 255 = ((s % 255 : Nat) : Int) := tmod_nat (n := 255) rfl
  obtain ⟨S, hS⟩ : ∃ S, s % 255 = S := ⟨_, rfl⟩
  have em2 : (s : Int) % 255 = (S : Int) := by omega
  rw [hS]
  have S1 : S < 255 := by omega
  have s1 : (S : Int) < 255 := by omega
  have s0 : (0 : Int) ≤ (S : Int) := by omega
  clear em
  replace hS := Lib.hid hS
  replace hs := Lib.hid hs
  go_enter Tryd.func54, Tryd.ntmps54
  go_wp2
  go_loop [3, 4] (fun x i => ∃ j : Nat, j ≤ S ∧ i = .int .i64 (j : Int) ∧ x = .int .i64 ((sh j : Nat) : Int)) (fun _ i => S - (intOf i).toNat)
  case atStart => exact ⟨0, by omega, rfl, rfl⟩
  case round =>
    obtain ⟨j, hj, rfl, rfl⟩ := hrel
    by_cases hjk : j < S
    · have j0 : (0 : Int) ≤ (j : Int) := by omega
      have j1 : (j : Int) < (S : Int) := by omega
      have hr := sh_lt j
      have r1 : ((sh j : Nat) : Int) < 256 := by omega
      have r0 : (0 : Int) ≤ ((sh j : Nat) : Int) := by omega
      by_cases h2 : 256 ≤ sh j * 2
      · have hx := xor369i (sh j * 2) (by omega)
        have hn : sh (j + 1) = (sh j * 2) ^^^ 369 := by
          show (if 256 ≤ sh j * 2 then (sh j * 2) ^^^ 369 else sh j * 2) = _
          rw [if_pos h2]
        rw [← hn] at hx
        have hd : decide ((256 : Int) ≤ ((sh j : Nat) : Int) * 2) = true := by rw [decide_eq_true_eq]; omega
        have hc : ((sh j * 2 : Nat) : Int) = ((sh j : Nat) : Int) * 2 := by omega
        rw [hc] at hx
        clear hc
        replace hn := Lib.hid hn
        replace hr := Lib.hid hr
        obtain ⟨R1, hR1⟩ : ∃ R1, sh (j + 1) = R1 := ⟨_, rfl⟩
        rw [hR1] at hx
        replace hR1 := Lib.hid hR1
        replace h2 := Lib.hid h2
        generalize sh j = R at *
        go_wp2
        exact ⟨⟨j + 1, by omega, by go_num, by rw [hR1.out]⟩, left_u (by assumption)⟩
      · have hn : sh (j + 1) = sh j * 2 := by
          show (if 256 ≤ sh j * 2 then (sh j * 2) ^^^ 369 else sh j * 2) = _
          rw [if_neg h2]
        have hd : decide ((256 : Int) ≤ ((sh j : Nat) : Int) * 2) = false := by rw [decide_eq_false_iff_not]; omega
        replace hn := Lib.hid hn
        replace hr := Lib.hid hr
        replace h2 := Lib.hid h2
        go_wp2
        exact ⟨⟨j + 1, by omega, by go_num, by rw [hn.out]; simp⟩, left_u (by assumption)⟩
    · obtain rfl : j = S := by omega
      have hr := sh_lt j
      have r1 : ((sh j : Nat) : Int) < 256 := by omega
      have r0 : (0 : Int) ≤ ((sh j : Nat) : Int) := by omega
      go_wp2
      go_ret
      exact ⟨by simp, Below.refl _ _⟩
set_option maxHeartbeats 1000000 in
theorem power_any (k T : Nat) (hk : k < 64) (hT : 2 ^ k = T) (w : World) : Calls Tryd.prog 41 #[.int .i64 (k : Int)] w fun e w' => e = .returned (.int .u64 (T : Int)) ∧ Below w.heap.size w w' := by
  replace hT := Lib.hid hT
  have K0 : (0 : Int) ≤ (k : Int) := by omega
  have K1 : (k : Int) < 64 := by omega
  go_enter Tryd.func41, Tryd.ntmps41
  go_wp2
  go_loop [3, 4] (fun x i => ∃ j : Nat, j ≤ k ∧ i = .int .i64 (j : Int) ∧ x = .int .u64 ((2 ^ j : Nat) : Int)) (fun _ i => k - (intOf i).toNat)
  case atStart => exact ⟨0, by omega, rfl, rfl⟩
  case round =>
    obtain ⟨j, hj, rfl, rfl⟩ := hrel
    by_cases hjk : j < k
    · have j0 : (0 : Int) ≤ (j : Int) := by omega
      have j1 : (j : Int) < (k : Int) := by omega
      obtain ⟨P, hP⟩ : ∃ P, 2 ^ j = P := ⟨_, rfl⟩
      have hP2 : 2 ^ (j + 1) = P * 2 := by rw [Nat.pow_succ, hP]
      have hPl : P * 2 < 18446744073709551616 := by
        rw [← hP2]
        have : 2 ^ (j + 1) ≤ 2 ^ 63 := Nat.pow_le_pow_right (by decide) (by omega)
        omega
      have hw : IntKind.u64.wrap ((P : Int) * 2) = ((P * 2 : Nat) : Int) := by
        simp only [IntKind.wrap_u64]; omega
      obtain ⟨P2, hPP⟩ : ∃ P2, P * 2 = P2 := ⟨_, rfl⟩
      rw [hPP] at hw hP2
      rw [hP]
      have p0 : (0 : Int) ≤ (P : Int) := by omega
      replace hP2 := Lib.hid hP2
      replace hP := Lib.hid hP
      replace hPl := Lib.hid hPl
      replace hPP := Lib.hid hPP
      go_wp2
      exact ⟨⟨j + 1, by omega, by go_num, by rw [hP2.out]⟩, left_u (by assumption)⟩
    · obtain rfl : j = k := by omega
      rw [hT.out]
      go_wp2
      go_ret
      exact ⟨rfl, Below.refl _ _⟩
end Go.Proofs.YtfklkplnbmhddaaDoor
