/-
  Plain mathematics: a number times itself less one is nought at 0 and at 1 alone.
-/
import Derived.Test.YtailpfbdanhpmaaGadgetOf
import Derived.Test.YtailpfbdanhpmaaPrime
namespace Go.Proofs.Ytailpfbdanhpmaa
open Go.RowKit F Flow

theorem bit_zero (f : Int) (hf : f = 1 ∨ f = 2) : hz (mul f) (add f) 0 (bitCoefs f) = 0 ∧ hz (mul f) (add f) 1 (bitCoefs f) = 0 := by
  rcases hf with rfl | rfl <;> decide
theorem bit_step (f a : Int) (hf : f = 1 ∨ f = 2) (a0 : 1 ≤ a) (a1 : a < M f) : hz (mul f) (add f) a (bitCoefs f) = (a - 1) * a % M f := by
  have hM : 1 < M f := by rcases hf with rfl | rfl <;> decide
  have hr : ∀ x, 0 ≤ x → x < M f → redu f x = x := fun x h0 h1 => redu_of_lt h0 h1
  have n1 : neg f 1 = M f - 1 := by rcases hf with rfl | rfl <;> decide
  have e1 : mul f 0 a = 0 := by unfold mul; rw [hr 0 (by omega) (by omega), Int.zero_mul]; rfl
  have e2 : add f 0 1 = 1 := by unfold add; rw [hr 0 (by omega) (by omega), hr 1 (by omega) (by omega)]; exact Int.emod_eq_of_lt (by omega) hM
  have e3 : mul f 1 a = a := by unfold mul; rw [hr 1 (by omega) (by omega), hr a (by omega) a1, Int.one_mul]; exact Int.emod_eq_of_lt (by omega) a1
  have e4 : add f a (M f - 1) = a - 1 := by
    unfold add
    rw [hr a (by omega) a1, hr (M f - 1) (by omega) (by omega), show a + (M f - 1) = (a - 1) + M f by omega, Int.add_emod_right]
    exact Int.emod_eq_of_lt (by omega) (by omega)
  have e5 : mul f (a - 1) a = (a - 1) * a % M f := by unfold mul; rw [hr (a - 1) (by omega) (by omega), hr a (by omega) a1]
  have e6 : add f ((a - 1) * a % M f) 0 = (a - 1) * a % M f := by
    unfold add
    rw [hr _ (Int.emod_nonneg _ (by omega)) (Int.emod_lt_of_pos _ (by omega)), hr 0 (by omega) (by omega), Int.add_zero, Int.emod_emod]
  simp only [bitCoefs, hz, n1]
  rw [e1, e2, e3, e4, e5, e6]
theorem prime_M (f : Int) (hf : f = 1 ∨ f = 2) : ∃ p : Nat, Prime.IsPrime p ∧ M f = (p : Int) := by
  rcases hf with rfl | rfl
  · exact ⟨_, Prime.small_prime, rfl⟩
  · exact ⟨_, Prime.large_prime, rfl⟩
/-- The gadget Bit is nought at 0 and at 1 alone. -/
theorem bit_iff (f a : Int) (hf : f = 1 ∨ f = 2) (a0 : 0 ≤ a) (a1 : a < M f) : hz (mul f) (add f) a (bitCoefs f) = 0 ↔ a = 0 ∨ a = 1 := by
  constructor
  · intro h
    by_cases h0 : a = 0
    · exact .inl h0
    · by_cases h1 : a = 1
      · exact .inr h1
      · rw [bit_step f a hf (by omega) a1] at h
        obtain ⟨p, hp, hM⟩ := prime_M f hf
        obtain ⟨n, rfl⟩ : ∃ n : Nat, a = (n : Int) + 2 := ⟨(a - 2).toNat, by omega⟩
        rw [hM] at h a1
        have h2 : ((n + 1) * (n + 2)) % p = 0 := by
          have e : ((n : Int) + 2 - 1) * ((n : Int) + 2) = (((n + 1) * (n + 2) : Nat) : Int) := by
            rw [Int.natCast_mul, Int.natCast_add, Int.natCast_add]
            congr 1
            omega
          rw [e] at h
          omega
        rcases Prime.dvd_mul hp (Nat.dvd_of_mod_eq_zero h2) with h3 | h3
        · have := Nat.le_of_dvd (by omega) h3
          omega
        · have := Nat.le_of_dvd (by omega) h3
          omega
  · rintro (rfl | rfl)
    · exact (bit_zero f hf).1
    · exact (bit_zero f hf).2
end Go.Proofs.Ytailpfbdanhpmaa
