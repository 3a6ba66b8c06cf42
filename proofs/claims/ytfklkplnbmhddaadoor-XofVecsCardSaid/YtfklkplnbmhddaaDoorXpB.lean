/-
  Where the elements of few draws stand.
-/
import Derived.Test.YtfklkplnbmhddaaDoorXpA
import Derived.Test.YtfklkplnbmhddaaDoorRSame
import Derived.Test.YtfklkplnbmhddaaDoorBE
namespace Go.Proofs.YtfklkplnbmhddaaDoor
open Go.RowKit Flow Go.Maps F
set_option linter.unusedVariables false
set_option linter.unusedSimpArgs false

theorem pull_none (n : Nat) : pull [] n = List.replicate n 0 := by
  unfold pull
  refine List.ext_getElem (by simp) fun i h1 h2 => by simp
theorem chv_far {d : List Int} {N c : Nat} (hd : d.length ≤ 400) (hN : 8 ≤ N) (hc : 50 ≤ c) : chv d N c = 0 := by
  have h : 50 * 8 ≤ c * N := Nat.mul_le_mul hc hN
  unfold chv chk
  rw [List.drop_of_length_le (by omega), pull_none]
  exact loVal_zeros N
theorem nb_far {f : Int} {d : List Int} {N : Nat} (hd : d.length ≤ 400) (hN : 8 ≤ N) (hM : 0 < M f) (c : Nat) : nb f d N c < 64 ∧ c + nb f d N c ≤ c + 50 ∧ (c + nb f d N c ≤ c ∨ c + nb f d N c ≤ 50) := by
  have key : ∀ i, i < nb f d N c → c + i < 50 := fun i hi => by
    have h := nbF_bad f d N 64 c i hi
    refine Classical.byContradiction fun h5 => h ?_
    rw [chv_far hd hN (by omega)]
    exact hM
  have hle := nbF_le f d N 64 c
  have h64 : nb f d N c ≤ 64 := hle
  by_cases h0 : nb f d N c = 0
  · omega
  · have := key (nb f d N c - 1) (by omega)
    omega
/-- Where the i-th element's readings begin. -/
def posF (f : Int) (d : List Int) (N : Nat) : Nat → Nat
  | 0 => 0
  | i + 1 => posF f d N i + nb f d N (posF f d N i) + 1
theorem posF_le {f : Int} {d : List Int} {N : Nat} (hd : d.length ≤ 400) (hN : 8 ≤ N) (hM : 0 < M f) : ∀ i, posF f d N i ≤ 50 + i ∧ i ≤ posF f d N i
  | 0 => ⟨Nat.zero_le _, Nat.le_refl _⟩
  | i + 1 => by
    have ih := posF_le hd hN hM i
    have := nb_far hd hN hM (posF f d N i)
    unfold posF
    omega
theorem posF_mono {f : Int} {d : List Int} {N : Nat} : ∀ (i j : Nat), i ≤ j → posF f d N i ≤ posF f d N j
  | i, 0, h => by
    obtain rfl : i = 0 := by omega
    exact Nat.le_refl _
  | i, j + 1, h => by
    by_cases e : i = j + 1
    · rw [e]; exact Nat.le_refl _
    · have := posF_mono (f := f) (d := d) (N := N) i j (by omega)
      rw [show posF f d N (j + 1) = posF f d N j + nb f d N (posF f d N j) + 1 from rfl]
      omega
theorem posF_steps {f : Int} {d : List Int} {N : Nat} (hd : d.length ≤ 400) (hN : 8 ≤ N) (hM : 0 < M f) {K : Nat} (hK : K ≤ 100) : Steps f d N K (posF f d N) where
  z := rfl
  s := fun _ _ => rfl
  le := fun i hi => by have := (posF_le hd hN hM i).1; omega
  up := fun i _ => (posF_le hd hN hM i).2
/-- What the i-th element is. -/
def elF (f : Int) (d : List Int) (N : Nat) (i : Nat) : Int := chv d N (posF f d N i + nb f d N (posF f d N i))
def elsF (f : Int) (d : List Int) (N K : Nat) : List Int := (List.range K).map (elF f d N)
theorem elsF_len (f : Int) (d : List Int) (N K : Nat) : (elsF f d N K).length = K := by simp [elsF]
theorem elsF_at (f : Int) (d : List Int) (N K i : Nat) (h : i < K) : (elsF f d N K).getD i 0 = chv d N (posF f d N i + nb f d N (posF f d N i)) := by
  unfold elsF
  rw [List.getD_eq_getElem?_getD, List.getElem?_map, List.getElem?_range h]
  rfl
theorem elsF_succ (f : Int) (d : List Int) (N K : Nat) : elsF f d N (K + 1) = elsF f d N K ++ [elF f d N K] := by
  unfold elsF
  rw [List.range_succ, List.map_append]
  rfl
/-- Where a round of the law's loop stands. -/
structure At2 (f : Int) (d : List Int) (N K i c : Nat) : Prop where
  iK : i ≤ K
  lo : posF f d N i ≤ c
  hi : c ≤ posF f d N i + nb f d N (posF f d N i)
  en : i = K → c = posF f d N K
theorem At2.start (f : Int) (d : List Int) (N K : Nat) : At2 f d N K 0 0 := ⟨Nat.zero_le _, Nat.le_refl _, Nat.zero_le _, fun h => by rw [← h]; rfl⟩
theorem At2.below {f : Int} {d : List Int} {N K i c : Nat} (h : At2 f d N K i c) (hi : i < K) : c < posF f d N K := by
  have h1 := posF_mono (f := f) (d := d) (N := N) (i + 1) K hi
  rw [show posF f d N (i + 1) = posF f d N i + nb f d N (posF f d N i) + 1 from rfl] at h1
  have := h.hi
  omega
theorem At2.took {f : Int} {d : List Int} {N K i c : Nat} (h : At2 f d N K i c) (hi : i < K) (hV : chv d N c < M f) : chv d N c = elF f d N i ∧ At2 f d N K (i + 1) (c + 1) := by
  have e : c = posF f d N i + nb f d N (posF f d N i) := by
    refine Classical.byContradiction fun hne => ?_
    have h1 := h.lo
    have h2 := h.hi
    have := nbF_bad f d N 64 (posF f d N i) (c - posF f d N i) (show c - posF f d N i < nb f d N (posF f d N i) by omega)
    rw [show posF f d N i + (c - posF f d N i) = c by omega] at this
    exact this hV
  have e2 : c + 1 = posF f d N (i + 1) := by rw [e]; rfl
  refine ⟨by unfold elF; rw [← e], ⟨hi, by omega, by omega, fun hh => by rw [e2, hh]⟩⟩
theorem At2.none {f : Int} {d : List Int} {N K i c : Nat} (h : At2 f d N K i c) (hi : i < K) (hb : nb f d N (posF f d N i) < 64) (hV : ¬ chv d N c < M f) : At2 f d N K i (c + 1) := by
  have hne : c ≠ posF f d N i + nb f d N (posF f d N i) := fun e => hV (by rw [e]; exact nbF_ok f d N 64 _ hb)
  have h1 := h.lo
  have h2 := h.hi
  exact ⟨h.iK, by omega, by omega, fun hh => by omega⟩
theorem At2.up {f : Int} {d : List Int} {N K i c : Nat} (hd : d.length ≤ 400) (hN : 8 ≤ N) (hM : 0 < M f) (h : At2 f d N K i c) : i ≤ c := by
  have := (posF_le hd hN hM i).2
  have := h.lo
  omega
end Go.Proofs.YtfklkplnbmhddaaDoor
