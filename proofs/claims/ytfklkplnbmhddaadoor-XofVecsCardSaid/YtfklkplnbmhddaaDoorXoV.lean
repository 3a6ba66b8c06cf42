/-
  Bytes that are no element over and over: how many are passed over.
-/
import Derived.Test.YtfklkplnbmhddaaDoorXoU
namespace Go.Proofs.YtfklkplnbmhddaaDoor
open Go.RowKit Flow Go.Maps F
set_option linter.unusedVariables false
set_option linter.unusedSimpArgs false

theorem nbF_eq (f : Int) (d : List Int) (N : Nat) : ∀ m c j, j ≤ m → (∀ i, i < j → ¬ chv d N (c + i) < M f) → (j < m → chv d N (c + j) < M f) → nbF f d N m c = j
  | 0, _, j, h, _, _ => by unfold nbF; omega
  | m + 1, c, j, h, hb, ho => by
    unfold nbF
    cases j with
    | zero => rw [if_pos (show chv d N c < M f from ho (by omega))]
    | succ j =>
      rw [if_neg (show ¬ chv d N c < M f from hb 0 (by omega)), nbF_eq f d N m (c + 1) j (by omega) (fun i hi => by
        have := hb (i + 1) (by omega)
        rwa [show c + (i + 1) = c + 1 + i by omega] at this) (fun hj => by
        have := ho (by omega)
        rwa [show c + (j + 1) = c + 1 + j by omega] at this)]
theorem chk_same {d : List Int} {N c : Nat} {v : Int} (h : ∀ i, i < N → d.getD (c * N + i) 0 = v) : chk d N c = List.replicate N v := by
  unfold chk pull
  refine List.ext_getElem (by simp) fun i h1 h2 => ?_
  have hi : i < N := by simpa using h1
  have := h i hi
  simp only [List.getElem_map, List.getElem_range, List.getElem_replicate]
  rw [List.getD_eq_getElem?_getD, List.getElem?_drop, ← List.getD_eq_getElem?_getD]
  exact this
theorem loVal_zeros : ∀ N, loVal (List.replicate N 0) = 0
  | 0 => rfl
  | N + 1 => by
    rw [List.replicate_succ]
    show 0 + 256 * loVal (List.replicate N 0) = 0
    rw [loVal_zeros N]
    rfl
/-- The draws: noughts, then 255s. -/
def hh (k N : Nat) (i : Nat) : Nat := if i < k * N then 0 else 255
def dr1 (k N D : Nat) : List Int := (List.range D).map (fun i => ((hh k N i : Nat) : Int))
theorem dr1_len (k N D : Nat) : (dr1 k N D).length = D := by simp [dr1]
theorem dr1_at (k N D i : Nat) : (dr1 k N D).getD i 0 = if i < D then ((hh k N i : Nat) : Int) else 0 := by
  unfold dr1
  rw [List.getD_eq_getElem?_getD]
  by_cases h : i < D
  · simp [h]
  · simp [h]
theorem dr1_ok (k N D : Nat) : BytesOK (dr1 k N D) := fun x hx => by
  unfold dr1 at hx
  obtain ⟨i, _, rfl⟩ := List.mem_map.1 hx
  unfold hh
  split <;> omega
/-- Of so many readings that are none. -/
theorem dr1_chv (k N T c : Nat) (hN : 0 < N) : chv (dr1 k N ((k + T) * N)) N c = if c < k then 0 else if c < k + T then loVal (List.replicate N 255) else 0 := by
  have key : ∀ i, i < N → (dr1 k N ((k + T) * N)).getD (c * N + i) 0 = if c < k then 0 else if c < k + T then 255 else 0 := fun i hi => by
    rw [dr1_at]
    unfold hh
    by_cases h1 : c < k
    · have e1 : (c + 1) * N ≤ k * N := Nat.mul_le_mul_right _ h1
      have e2 : (c + 1) * N ≤ (k + T) * N := Nat.mul_le_mul_right _ (by omega)
      rw [Nat.succ_mul] at e1 e2
      rw [if_pos (by omega), if_pos (by omega), if_pos h1]
      rfl
    · have e0 : k * N ≤ c * N := Nat.mul_le_mul_right _ (by omega)
      by_cases h2 : c < k + T
      · have e2 : (c + 1) * N ≤ (k + T) * N := Nat.mul_le_mul_right _ h2
        rw [Nat.succ_mul] at e2
        rw [if_pos (by omega), if_neg (by omega), if_neg h1, if_pos h2]
        rfl
      · have e2 : (k + T) * N ≤ c * N := Nat.mul_le_mul_right _ (by omega)
        rw [if_neg (by omega), if_neg h1, if_neg h2]
  unfold chv
  rw [chk_same key]
  split
  · exact loVal_zeros N
  · split
    · rfl
    · exact loVal_zeros N
theorem dr1_nb (f : Int) (k N T c : Nat) (hN : 0 < N) (hM : 0 < M f) (hbig : ¬ loVal (List.replicate N 255) < M f) (hT : T ≤ 64) : nb f (dr1 k N ((k + T) * N)) N c = if c < k then 0 else if c = k then T else nb f (dr1 k N ((k + T) * N)) N c := by
  split
  · rename_i h
    refine nbF_eq f _ N 64 c 0 (by omega) (fun i hi => by omega) (fun _ => ?_)
    rw [dr1_chv k N T _ hN, if_pos (by omega)]
    exact hM
  · split
    · rename_i h1 h2
      subst h2
      refine nbF_eq f _ N 64 c T hT (fun i hi => ?_) (fun _ => ?_)
      · rw [dr1_chv c N T _ hN, if_neg (by omega), if_pos (by omega)]
        exact hbig
      · rw [dr1_chv c N T _ hN, if_neg (by omega), if_neg (by omega)]
        exact hM
    · rfl
/-- Where its elements stand. -/
def ps1 (k T : Nat) (i : Nat) : Nat := if i ≤ k then i else k + T + 1
theorem dr1_steps (f : Int) (k N T K : Nat) (hN : 0 < N) (hM : 0 < M f) (hbig : ¬ loVal (List.replicate N 255) < M f) (hT : T ≤ 64) (hk : k ≤ 100) (hK : K ≤ k + 1) : Steps f (dr1 k N ((k + T) * N)) N K (ps1 k T) where
  z := by simp [ps1]
  s := fun i hi => by
    have e : ps1 k T i = i := if_pos (by omega)
    rw [e, dr1_nb f k N T i hN hM hbig hT]
    unfold ps1
    by_cases h : i < k
    · rw [if_pos (by omega), if_pos h]
    · have : i = k := by omega
      rw [if_neg (by omega), if_neg h, if_pos this]
      omega
  le := fun i hi => by unfold ps1; split <;> omega
  up := fun i hi => by unfold ps1; split <;> omega
end Go.Proofs.YtfklkplnbmhddaaDoor
