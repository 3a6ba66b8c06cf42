/-
  Draws there and back: whether two lists are the same; a vector cut; draws for another one.
-/
import Derived.Test.YtaiffgkiliokfaaTpA
namespace Go.Proofs.Ytaiffgkiliokfaa
open Go.RowKit F Flow
set_option linter.unusedVariables false
set_option linter.unusedSimpArgs false
attribute [local go_sem] eql_elem

theorem same_words {x y : Int} : (lo x == lo y && hi x == hi y) = decide (x = y) := by
  by_cases h : x = y
  · subst h; simp
  · have h2 : ¬ (lo x = lo y ∧ hi x = hi y) := fun ⟨h1, h3⟩ => h (by rw [← val_lohi x, ← val_lohi y, h1, h3])
    rw [decide_eq_false h]
    by_cases h1 : lo x = lo y
    · have h3 : hi x ≠ hi y := fun h3 => h2 ⟨h1, h3⟩
      simp [h3]
    · simp [h1]
set_option maxHeartbeats 1000000 in
theorem same_yes (xs : List Int) (A B : Option Addr) (N c d : Nat) (hN : xs.length = N) (hm : N ≤ 4096) (w : World) (hA : ElemsAt w A xs) (hB : ElemsAt w B xs) :
    Calls Try.prog 16 #[.slice A N c, .slice B N d] w fun e w' => e = .returned (.bool true) ∧ Below w.heap.size w w' := by
  replace hN := Lib.hid hN
  go_enter Try.func16, Try.ntmps16
  go_wp2_with fail
  go_loopw [5] (fun i wr => ∃ k : Nat, k ≤ N ∧ i = .int .i64 (k : Int) ∧ Below w.heap.size w wr) (fun i _ => N - (intOf i).toNat)
  case atStart => exact ⟨0, Nat.zero_le _, rfl, Below.refl _ _⟩
  case round =>
    obtain ⟨k, hk, rfl, hb⟩ := hrel
    by_cases hlt : k < N
    · obtain ⟨b, o, rfl, c0, c1⟩ := (hA.up hb) k (by rw [hN.out]; exact hlt)
      obtain ⟨b2, o2, rfl, d0, d1⟩ := (hB.up hb) k (by rw [hN.out]; exact hlt)
      clear hA hB
      generalize xs.getD k 0 = x at *
      have k0 : (0 : Int) ≤ (k : Int) := by omega
      have k1 : (k : Int) < (N : Int) := by omega
      go_wp2
      go_region
      go_wp2
      exact ⟨⟨k + 1, hlt, by go_num, hb.drew⟩, left_t hlt⟩
    · obtain rfl : N = k := by omega
      clear hA hB
      go_wp2
      go_ret
      exact ⟨rfl, hb⟩
set_option maxHeartbeats 1000000 in
theorem same_no (xs ys : List Int) (A B : Option Addr) (N c d : Nat) (hN : xs.length = N) (hN2 : ys.length = N) (hm : N ≤ 4096) (hne : xs ≠ ys) (w : World) (hA : ElemsAt w A xs) (hB : ElemsAt w B ys) :
    Calls Try.prog 16 #[.slice A N c, .slice B N d] w fun e w' => e = .returned (.bool false) ∧ Below w.heap.size w w' := by
  have hfirst : ∃ j, j < N ∧ xs.getD j 0 ≠ ys.getD j 0 ∧ ∀ i, i < j → xs.getD i 0 = ys.getD i 0 := by
    by_cases hex : ∃ j, j < N ∧ xs.getD j 0 ≠ ys.getD j 0
    · obtain ⟨j, hj⟩ := hex
      induction j using Nat.strongRecOn with
      | ind j ih =>
        by_cases hlow : ∃ i, i < j ∧ xs.getD i 0 ≠ ys.getD i 0
        · obtain ⟨i, hi, hi2⟩ := hlow
          exact ih i hi ⟨by omega, hi2⟩
        · exact ⟨j, hj.1, hj.2, fun i hi => Classical.byContradiction fun h => hlow ⟨i, hi, h⟩⟩
    · exfalso
      apply hne
      refine List.ext_getElem (by rw [hN, hN2]) fun i h1 h2 => ?_
      have := Classical.byContradiction fun h => hex ⟨i, by omega, h⟩
      simpa [h1, h2] using this
  obtain ⟨J, hJ, hJne, hJl⟩ := hfirst
  replace hN := Lib.hid hN
  replace hN2 := Lib.hid hN2
  replace hJne := Lib.hid hJne
  replace hJl := Lib.hid hJl
  clear hne
  go_enter Try.func16, Try.ntmps16
  go_wp2_with fail
  go_loopw [5] (fun i wr => ∃ k : Nat, k ≤ J ∧ i = .int .i64 (k : Int) ∧ Below w.heap.size w wr) (fun i _ => N - (intOf i).toNat)
  case atStart => exact ⟨0, Nat.zero_le _, rfl, Below.refl _ _⟩
  case round =>
    obtain ⟨k, hk, rfl, hb⟩ := hrel
    have hlt : k < N := by omega
    obtain ⟨b, o, rfl, c0, c1⟩ := (hA.up hb) k (by rw [hN.out]; exact hlt)
    obtain ⟨b2, o2, rfl, d0, d1⟩ := (hB.up hb) k (by rw [hN2.out]; exact hlt)
    clear hA hB
    have k0 : (0 : Int) ≤ (k : Int) := by omega
    have k1 : (k : Int) < (N : Int) := by omega
    by_cases hkJ : k < J
    · have he := hJl.out k hkJ
      rw [he] at c0 c1
      clear he
      generalize ys.getD k 0 = x at *
      go_wp2
      go_region
      go_wp2
      exact ⟨⟨k + 1, hkJ, by go_num, hb.drew⟩, left_t hlt⟩
    · obtain rfl : k = J := by omega
      have he := hJne.out
      clear hJne hJl
      generalize xs.getD k 0 = x at *
      generalize ys.getD k 0 = y at *
      have hw : (lo x == lo y && hi x == hi y) = false := by rw [same_words]; simpa using he
      clear he
      go_wp2
      go_region
      go_wp2
      go_ret
      exact ⟨rfl, hb.drew⟩
end Go.Proofs.Ytaiffgkiliokfaa
