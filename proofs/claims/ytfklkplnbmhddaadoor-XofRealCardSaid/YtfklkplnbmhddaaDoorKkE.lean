/-
  A round's constant, as it comes about.
-/
import Derived.Test.YtfklkplnbmhddaaDoorKkD
namespace Go.Proofs.YtfklkplnbmhddaaDoor
open Go.RowKit Flow
set_option linter.unusedVariables false
set_option linter.unusedSimpArgs false

def csF (r : Nat) : Nat → Nat
  | 0 => 0
  | j + 1 => (csF r j + sh ((j + 7 * r) % 255) % 2 * 2 ^ (2 ^ j - 1) % 18446744073709551616) % 18446744073709551616
theorem cs_eq : ∀ k, k < 12 → csF (12 + k) 7 = constsT.getD k 0 := by decide +kernel
set_option maxHeartbeats 2000000 in
theorem const_any (k : Nat) (hk : k < 12) (w : World) : Calls Tryd.prog 48 #[.int .i64 ((12 + k : Nat) : Int)] w fun e w' => e = .returned (.int .u64 ((constsT.getD k 0 : Nat) : Int)) ∧ Below w.heap.size w w' := by
  rw [← cs_eq k hk]
  obtain ⟨r, hr⟩ : ∃ r, 12 + k = r := ⟨_, rfl⟩
  rw [hr]
  have r0 : (0 : Int) ≤ (r : Int) := by omega
  have r1 : (r : Int) < 24 := by omega
  have r2 : r < 24 := by omega
  clear hr hk k
  obtain ⟨C7, hC7⟩ : ∃ C7, csF r 7 = C7 := ⟨_, rfl⟩
  rw [hC7]
  replace hC7 := Lib.hid hC7
  replace r2 := Lib.hid r2
  go_enter Tryd.func48, Tryd.ntmps48
  go_wp2
  go_loopw [3, 4, 5] (fun n a i wr => ∃ j N A : Nat, j ≤ 7 ∧ i = .int .i64 (j : Int) ∧ n = .int .u64 (N : Int) ∧ a = .int .i64 (A : Int) ∧ Hid (N = csF r j ∧ A = 2 ^ j) ∧ Below w.heap.size w wr) (fun _ _ i _ => 7 - (intOf i).toNat)
  case atStart => exact ⟨0, 0, 1, by omega, rfl, rfl, rfl, Lib.hid ⟨rfl, rfl⟩, Below.refl _ _⟩
  case round =>
    obtain ⟨j, N, A, hj, rfl, rfl, rfl, hNA, hb⟩ := hrel
    by_cases hjk : j < 7
    · have j0 : (0 : Int) ≤ (j : Int) := by omega
      have j1 : (j : Int) ≤ 6 := by omega
      obtain ⟨s, hs⟩ : ∃ s, j + 7 * r = s := ⟨_, rfl⟩
      have es : (j : Int) + 7 * (r : Int) = (s : Int) := by omega
      have hA : 1 ≤ A ∧ A ≤ 64 := by
        rw [hNA.out.2]
        exact ⟨Nat.pow_pos (by decide), Nat.pow_le_pow_right (n := 2) (by decide) (show j ≤ 6 by omega)⟩
      obtain ⟨q, hq⟩ : ∃ q, A - 1 = q := ⟨_, rfl⟩
      have eq1 : (A : Int) - 1 = (q : Int) := by omega
      obtain ⟨T, hT⟩ : ∃ T, 2 ^ q = T := ⟨_, rfl⟩
      obtain ⟨bb, hbb⟩ : ∃ bb, sh (s % 255) % 2 = bb := ⟨_, rfl⟩
      obtain ⟨Q, hQ⟩ : ∃ Q, bb * T % 18446744073709551616 = Q := ⟨_, rfl⟩
      obtain ⟨N2, hN2⟩ : ∃ N2, (N + Q) % 18446744073709551616 = N2 := ⟨_, rfl⟩
      have hcs : N2 = csF r (j + 1) := by
        show _ = (csF r j + sh ((j + 7 * r) % 255) % 2 * 2 ^ (2 ^ j - 1) % 18446744073709551616) % 18446744073709551616
        rw [← hNA.out.1, ← hNA.out.2, hs, hbb, hq, hT, hQ, hN2]
      have hS := shift_any s (by have := r2.out; omega) wr
      rw [hbb] at hS
      have hP := fun w => power_any q T (by omega) hT w
      have em : IntKind.u64.wrap ((bb : Int) * (T : Int)) = (Q : Int) := by
        rw [IntKind.wrap_u64, ← hQ]; simp
      have eN : IntKind.u64.wrap ((N : Int) + (Q : Int)) = (N2 : Int) := by
        rw [IntKind.wrap_u64, ← hN2]; simp
      have hA2 : A * 2 = 2 ^ (j + 1) := by rw [Nat.pow_succ, ← hNA.out.2]
      obtain ⟨A2, hAA⟩ : ∃ A2, A * 2 = A2 := ⟨_, rfl⟩
      have eA : (A : Int) * 2 = (A2 : Int) := by omega
      rw [hAA] at hA2
      have a0 : (0 : Int) ≤ (A : Int) := by omega
      have a1 : (A : Int) ≤ 64 := by omega
      replace hS := Lib.hid hS
      replace hP := Lib.hid hP
      replace hcs := Lib.hid hcs
      replace hA2 := Lib.hid hA2
      replace hAA := Lib.hid hAA
      replace hs := Lib.hid hs
      replace hq := Lib.hid hq
      replace hT := Lib.hid hT
      replace hbb := Lib.hid hbb
      replace hQ := Lib.hid hQ
      replace hN2 := Lib.hid hN2
      replace hA := Lib.hid hA
      go_wp2_with fail
      refine call_then hS.out ?_
      intro w2 hb2
      go_wp2_with fail
      refine call_then (hP.out w2) ?_
      intro w3 hb3
      replace hb := below_next (below_next hb hb.size hb2) (below_next hb hb.size hb2).size hb3
      clear hb2 hb3 hS hP es eq1
      go_wp2
      exact ⟨⟨j + 1, N2, A2, by omega, by go_num, rfl, rfl, Lib.hid ⟨hcs.out, hA2.out⟩, hb⟩, by simp [intOf]; omega⟩
    · obtain rfl : j = 7 := by omega
      have hN : N = C7 := hNA.out.1.trans hC7.out
      subst hN
      go_wp2
      go_ret
      exact ⟨rfl, hb⟩
end Go.Proofs.YtfklkplnbmhddaaDoor
