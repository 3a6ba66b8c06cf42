/-
  A thing is taken: numbers.
-/
import Derived.Test.YtdjgkojcckopaaaRlI
namespace Go.Proofs.Ytdjgkojcckopaaa
open Go.RowKit Flow
set_option linter.unusedVariables false
set_option linter.unusedSimpArgs false

set_option maxHeartbeats 4000000 in
theorem back1 (o r : Nat) (k n s : Int) (A : Option Addr) (bs : List Int) (c : Nat) (ss zs : List Int) (k0 : 0 ≤ k) (hk : k % 6 = 1) (hn : 0 ≤ n ∧ n < 18446744073709551616) (hz : ∀ y, y ∈ zs → 0 ≤ y ∧ y < 256) (v : Value) (hlen : (ubytes n (tsize s) ++ zs).length ≤ 1073741824) (w : World) (h : Rd w o r v false 0)
    (hv : Lf w o v (ubytes n (tsize s) ++ zs)) (hB : ArgBytes w A bs) :
    Calls Try.prog 12 #[.agg (tcells k n s A bs.length c ss).toArray, .pointer (some ⟨r, 0, none⟩)] w (Back w o r zs) := by
  have hsk := tsize_is s
  have hs := hsk
  generalize tsize s = K at *
  unfold SizeIs at hs
  have hK8 := hsk.le
  obtain ⟨n0, n1⟩ := hn
  have hu4 := ubytes_len n K
  have e3 : (ubytes n K ++ zs).take K = ubytes n K := by rw [List.take_append_of_le_length (by omega), List.take_of_length_le (by omega)]
  have e4 : (ubytes n K ++ zs).drop K = zs := by rw [List.drop_append_of_le_length (by omega), List.drop_of_length_le (by omega), List.nil_append]
  have e5 : F.loVal (ubytes n K) = n % 256 ^ K := by rw [ubytes_lo]; exact loVal_mod K n n0
  have hall : ∀ y, y ∈ ubytes n K ++ zs → 0 ≤ y ∧ y < 256 := fun y hy => by
    rcases List.mem_append.1 hy with h | h
    · exact F.loBytes_ok K n y (by rw [← ubytes_lo]; exact h)
    · exact hz y h
  go_enter Try.func12, Try.ntmps12
  go_upto_region 1 with (fail)
  refine name_wp (fun w1 => Below w.heap.size w w1 ∧ w1.heap.size = w.heap.size + 1 ∧ Boxed12 w1 w.heap.size k n s A bs.length c ss)
    ⟨(Below.refl _ _).alloc (Nat.le_refl _) _, by simp, boxed_alloc _ _ _ _ _ _ _ _ _⟩ ?_
  rintro w1 ⟨hb1, hz1, hbx⟩
  have hR1 := h.up hb1
  have hL1 := hv.but (But.of_below hb1)
  have hB1 := hB.up hb1
  have hol := lt_of_get h.ho
  have ek : k.tmod 6 = k % 6 := Int.tmod_eq_emod_of_nonneg k0
  clear h hv hB
  rw [hk] at ek
  have hR := ruint_gen o r v (ubytes n K ++ zs) hall s K hsk (by simp; omega) hlen w1 hR1 hL1
  rw [e3, e4, e5] at hR
  obtain ⟨c0, c1, c2, c3, r4⟩ := hbx
  replace n1 := Lib.hid n1
  have k0' : (0 : Int) ≤ (K : Int) := by omega
  have k1' : (K : Int) ≤ 8 := by omega
  clear hall e3 e4 e5 hu4 r4 hlen hz hsk
  by_cases hneg : s < 0
  · obtain rfl : K = 0 := by omega
    have e9 : n % 256 ^ 0 = 0 := by simp
    rw [e9] at hR
    replace hR := Lib.hid hR
    have q1 : max s 0 = 0 := by omega
    clear e9
    go_wp2_with fail
    refine hR.out.mono ?_
    rintro e w2 ⟨v2, rfl, hb2, hR2, hL2⟩
    clear hR c0 c1 c2 c3
    go_wp2
    go_ret
    exact ⟨v2, rfl, but_first hb1 hb2, hR2, hL2⟩
  by_cases h8 : s < 8
  · obtain rfl : s = (K : Int) := by omega
    have b0 : decide ((K : Int) < 8) = true := by rw [decide_eq_true_eq]; omega
    have b1 : (K : Int) < 8 := by omega
    have b2 : max (K : Int) 0 = (K : Int) := by omega
    have b3 : min (K : Int) 8 = (K : Int) := by omega
    have b4 : ¬ ((8 : Int) < (K : Int)) := by omega
    obtain ⟨D, hD, hD1, hD0⟩ : ∃ D : Int, (256 : Int) ^ K = D ∧ IntKind.u64.wrap (2 ^ (8 * K)) = D ∧ 0 < D := by
      refine ⟨_, rfl, ?_, Int.pow_pos (by decide)⟩
      have e1 : (256 : Int) ^ K = ((2 ^ (8 * K) : Nat) : Int) := by rw [Int.natCast_pow, Int.pow_mul]; rfl
      have hle : (2 : Nat) ^ (8 * K) ≤ 2 ^ 56 := Nat.pow_le_pow_right (by decide) (by omega)
      have e2 : ((2 : Int) ^ (8 * K)) = ((2 ^ (8 * K) : Nat) : Int) := by simp
      rw [e1, e2, IntKind.wrap_u64]
      generalize 2 ^ (8 * K) = T at hle ⊢
      omega
    have hDn : D ≠ 0 := by omega
    have b5 : (0 : Int) ≤ (K : Int) := by omega
    clear hs hneg h8
    rw [hD] at hR
    replace hD := Lib.hid hD
    replace hR := Lib.hid hR
    go_wp2_with fail
    refine hR.out.mono ?_
    rintro e w2 ⟨v2, rfl, hb2, hR2, hL2⟩
    clear hR c0 c1 c2 c3
    go_wp2
    go_ret
    exact ⟨v2, rfl, but_first hb1 hb2, hR2, hL2⟩
  · obtain rfl : K = 8 := by omega
    have e9 : n % 256 ^ 8 = n := by
      have := n1.out
      omega
    rw [e9] at hR
    replace hR := Lib.hid hR
    have b2 : max s 0 = s := by omega
    have b3 : min s 8 = 8 := by omega
    have b4 : 0 ≤ s := by omega
    clear e9
    by_cases h9 : 8 < s
    · go_wp2_with fail
      refine hR.out.mono ?_
      rintro e w2 ⟨v2, rfl, hb2, hR2, hL2⟩
      clear hR c0 c1 c2 c3
      go_wp2
      go_ret
      exact ⟨v2, rfl, but_first hb1 hb2, hR2, hL2⟩
    · obtain rfl : s = 8 := by omega
      go_wp2_with fail
      refine hR.out.mono ?_
      rintro e w2 ⟨v2, rfl, hb2, hR2, hL2⟩
      clear hR c0 c1 c2 c3
      go_wp2
      go_ret
      exact ⟨v2, rfl, but_first hb1 hb2, hR2, hL2⟩
end Go.Proofs.Ytdjgkojcckopaaa
