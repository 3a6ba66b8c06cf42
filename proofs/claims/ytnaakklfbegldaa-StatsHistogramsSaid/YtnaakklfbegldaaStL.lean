/-
  Plain mathematics: two rows that ascend and hold the same numbers are one.
-/
import Derived.Test.YtnaakklfbegldaaStJ
namespace Go.Proofs.Ytnaakklfbegldaa
open Go
set_option linter.unusedVariables false

theorem sgn_zero (x : Nat) (h : x = 0 ∨ x = 9223372036854775808) : sgn x = (x == 9223372036854775808) := by
  rcases h with rfl | rfl <;> decide +kernel
theorem key2_inj {x y : Nat} (hx : isNan x = false) (hy : isNan y = false) (bx : x < 18446744073709551616) (bby : y < 18446744073709551616) (h : key2 x = key2 y) : x = y := by
  have hk : key x = key y ∧ sgn x = sgn y := by
    unfold key2 at h
    cases hs : sgn x <;> cases ht : sgn y <;> simp only [hs, ht, if_true, if_false, Bool.false_eq_true] at h <;> first | exact ⟨by omega, rfl⟩ | (exfalso; omega)
  have ho : od x y = some .eq := by rw [od_key hx hy, Int.compare_eq_eq.2 hk.1]
  rcases od_eq bx bby ho with e | ⟨e1, e2⟩
  · exact e
  · have h1 : x = 0 ∨ x = 9223372036854775808 := by omega
    have h2 : y = 0 ∨ y = 9223372036854775808 := by omega
    have hs := hk.2
    rw [sgn_zero x h1, sgn_zero y h2] at hs
    rcases h1 with rfl | rfl <;> rcases h2 with rfl | rfl <;> first | rfl | (exact absurd hs (by decide))
theorem Ascends.pairs {ys : List Num} (h : Ascends ys) : ys.Pairwise (fun a b => key2 a.1 ≤ key2 b.1) := by
  rw [List.pairwise_iff_getElem]
  intro i j hi hj hij
  have := h i j hij hj
  simpa [List.getD_eq_getElem?_getD, hi, hj] using this
/-- Two rows that ascend and hold the same numbers are one. -/
theorem ascends_same {ys zs : List Num} (hp : ys.Perm zs) (h1 : Ascends ys) (h2 : Ascends zs) (hb : ∀ x ∈ ys, x.1 < 18446744073709551616) : ys = zs :=
  List.Perm.eq_of_pairwise (le := fun a b : Num => key2 a.1 ≤ key2 b.1) (fun a b ha hb' hab hba => Subtype.ext (key2_inj a.2 b.2 (hb a ha) (hb b (hp.mem_iff.2 hb')) (Int.le_antisymm hab hba))) h1.pairs h2.pairs hp
theorem Ascends.of_pairs {ys : List Num} (h : ys.Pairwise (fun a b => key2 a.1 ≤ key2 b.1)) : Ascends ys := by
  intro i j hij hj
  have hi : i < ys.length := by omega
  have := (List.pairwise_iff_getElem.1 h) i j hi hj hij
  simpa [List.getD_eq_getElem?_getD, hi, hj] using this
/-- A number put where it stands. -/
theorem ascends_insert {zs : List Num} {x : Num} {n : Nat} (h : Ascends zs) (hn : n ≤ zs.length) (h1 : ∀ i, i < n → key2 (zs.getD i default).1 ≤ key2 x.1) (h2 : n < zs.length → key2 x.1 ≤ key2 (zs.getD n default).1) :
    Ascends (zs.take n ++ ([x] ++ zs.drop n)) := by
  have hp := h.pairs
  refine Ascends.of_pairs (List.pairwise_append.2 ⟨hp.sublist (List.take_sublist _ _), List.pairwise_append.2 ⟨List.pairwise_singleton _ _, hp.sublist (List.drop_sublist _ _), fun a ha b hb => ?_⟩, fun a ha b hb => ?_⟩)
  · obtain rfl : a = x := by simpa using ha
    obtain ⟨j, hj, rfl⟩ := List.mem_iff_getElem.1 hb
    have hl : n + j < zs.length := by simp at hj; omega
    have h3 := h2 (by omega)
    rw [List.getElem_drop]
    by_cases hz : j = 0
    · subst hz
      have hl2 : n < zs.length := by omega
      simpa [List.getD_eq_getElem?_getD, hl2] using h3
    · have h4 := h n (n + j) (by omega) hl
      have hl2 : n < zs.length := by omega
      simp only [List.getD_eq_getElem?_getD, hl, hl2, List.getElem?_eq_getElem, Option.getD_some] at h3 h4
      omega
  · obtain ⟨i, hi, rfl⟩ := List.mem_iff_getElem.1 ha
    have hi' : i < n ∧ i < zs.length := by simp at hi; omega
    have ha' := h1 i hi'.1
    rw [List.getElem_take]
    simp only [List.getD_eq_getElem?_getD, hi'.2, List.getElem?_eq_getElem, Option.getD_some] at ha'
    rcases List.mem_append.1 hb with hb | hb
    · obtain rfl : b = x := by simpa using hb
      exact ha'
    · obtain ⟨j, hj, rfl⟩ := List.mem_iff_getElem.1 hb
      have hl : n + j < zs.length := by simp at hj; omega
      rw [List.getElem_drop]
      have h4 := h i (n + j) (by omega) hl
      simpa [List.getD_eq_getElem?_getD, hi'.2, hl] using h4
theorem perm_insert (zs : List Num) (x : Num) (n : Nat) : (zs.take n ++ ([x] ++ zs.drop n)).Perm (zs ++ [x]) := by
  have h1 : (zs.take n ++ ([x] ++ zs.drop n)).Perm ([x] ++ (zs.take n ++ zs.drop n)) := by
    rw [← List.append_assoc, ← List.append_assoc]
    exact List.Perm.append_right _ List.perm_append_comm
  rw [List.take_append_drop] at h1
  exact h1.trans List.perm_append_comm
end Go.Proofs.Ytnaakklfbegldaa
