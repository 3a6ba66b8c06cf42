/-
  What a circuit says of a vector, as a sum over its elements: mathematics.
-/
import Derived.Test.YtgdokfchfgnbbaaGreatDJ
import Derived.Test.YtgdokfchfgnbbaaGreatMod
namespace Go.Proofs.YtgdokfchfgnbbaaGreat
open Go.RowKit Flow F
set_option linter.unusedVariables false

/-- A sum of numbers. -/
def sumZ (T : Nat → Int) : Nat → Int
  | 0 => 0
  | n + 1 => sumZ T n + T n
theorem sumZ_cat (T : Nat → Int) (a : Nat) : ∀ m, sumZ T (a + m) = sumZ T a + sumZ (fun j => T (a + j)) m
  | 0 => by simp [sumZ]
  | m + 1 => by
    rw [← Nat.add_assoc]
    simp only [sumZ]
    rw [sumZ_cat T a m]
    omega
theorem sumZ_congr {T U : Nat → Int} : ∀ {m : Nat}, (∀ j, j < m → T j = U j) → sumZ T m = sumZ U m
  | 0, _ => rfl
  | m + 1, h => by
    simp only [sumZ]
    rw [sumZ_congr (fun j hj => h j (by omega)), h m (by omega)]
theorem sumZ_zero {T : Nat → Int} : ∀ {m : Nat}, (∀ j, j < m → T j = 0) → sumZ T m = 0
  | 0, _ => rfl
  | m + 1, h => by
    simp only [sumZ]
    rw [sumZ_zero (fun j hj => h j (by omega)), h m (by omega)]
    rfl
theorem bit_term {f x : Int} (hx : 0 ≤ x ∧ x < M f) : mul f x (sub f x 1) = (x * (x - 1)) % M f := by
  have h := mul_mm f x (x - 1)
  rw [in_em hx, ← sub_in hx (in_one f)] at h
  exact h
theorem pow_term {f P x : Int} (hP : 0 ≤ P ∧ P < M f) (hx : 0 ≤ x ∧ x < M f) : mul f P (mul f x (sub f x 1)) = (P * (x * (x - 1))) % M f := by
  have h := mul_mm f P (x * (x - 1))
  rw [in_em hP, ← bit_term hx] at h
  exact h
theorem pair_term {f P x : Int} (hP : 0 ≤ P ∧ P < M f) (hx : 0 ≤ x ∧ x < M f) : mul f (mul f P x) (sub f x 1) = (P * (x * (x - 1))) % M f := by
  rw [mul_in hP hx, sub_in hx (in_one f), mul_mm, Int.mul_assoc]
theorem zero_term (f s : Int) : add f (s % M f) (mul f 0 0) = s % M f := by
  have h : mul f 0 0 = 0 % M f := by rw [mul_in (in_zero f) (in_zero f)]; rfl
  rw [h, add_mm, Int.add_zero]
theorem getD_in' {f : Int} {xs : List Int} (h : InF f xs) (k : Nat) : 0 ≤ xs.getD k 0 ∧ xs.getD k 0 < M f := by
  by_cases hk : k < xs.length
  · exact h.at_ hk
  · rw [List.getD_eq_getElem?_getD, List.getElem?_eq_none (by omega)]
    exact in_zero f
theorem pwr_in {f r : Int} (h : 0 ≤ r ∧ r < M f) : ∀ k, 0 ≤ pwr f r k ∧ pwr f r k < M f
  | 0 => h
  | k + 1 => mul_bound f _ _
/-- What element number i adds to what is said, by chunks of C. -/
def dT (f : Int) (C : Nat) (vs js : List Int) (i : Nat) : Int := pwr f (js.getD (i / C) 0) (i % C) * (vs.getD i 0 * (vs.getD i 0 - 1))
def dS (f : Int) (C : Nat) (vs js : List Int) (n : Nat) : Int := sumZ (dT f C vs js) n % M f
theorem dS_in (f : Int) (C : Nat) (vs js : List Int) (n : Nat) : 0 ≤ dS f C vs js n ∧ dS f C vs js n < M f := em_in _ _
theorem dS_step {f : Int} {C : Nat} {vs js : List Int} (hv : InF f vs) (hj : InF f js) (n : Nat) :
    add f (dS f C vs js n) (mul f (pwr f (js.getD (n / C) 0) (n % C)) (mul f (vs.getD n 0) (sub f (vs.getD n 0) 1))) = dS f C vs js (n + 1) := by
  rw [pow_term (pwr_in (getD_in' hj _) _) (getD_in' hv n)]
  unfold dS
  rw [add_mm]
  rfl
theorem prL_get (f r p : Int) (xs : List Int) (D i : Nat) : (prL f r p xs D).getD i 0 = if i < 2 * xs.length then prF f r p xs i else 0 := by
  unfold prL
  have hl : (rangeL (prF f r p xs) (2 * xs.length)).length = 2 * xs.length := by simp [rangeL]
  rw [List.getD_eq_getElem?_getD]
  by_cases h : i < 2 * xs.length
  · rw [List.getElem?_append_left (by omega), if_pos h]
    simp [rangeL, h]
  · rw [List.getElem?_append_right (by omega), if_neg h, List.getElem?_replicate]
    split <;> rfl
theorem prq_chunk {f r : Int} {ch : List Int} (hr : 0 ≤ r ∧ r < M f) (hc : InF f ch) (D : Nat) : ∀ j,
    prq (mul f) (add f) (prL f r 1 ch D) j = sumZ (fun j => pwr f r j * (ch.getD j 0 * (ch.getD j 0 - 1))) (min j ch.length) % M f
  | 0 => by simp [prq, sumZ]
  | j + 1 => by
    simp only [prq]
    rw [prq_chunk hr hc D j, prL_get, prL_get]
    by_cases h : j < ch.length
    · rw [if_pos (by omega), if_pos (by omega), show j * 2 = 2 * j by omega, prF_even, prF_odd, pair_term (pwr_in hr j) (getD_in' hc j), add_mm, Nat.min_eq_left (by omega), Nat.min_eq_left (by omega)]
      rfl
    · rw [if_neg (by omega), if_neg (by omega), zero_term, Nat.min_eq_right (by omega), Nat.min_eq_right (by omega)]
theorem getD_chunk (vs : List Int) (a C j : Nat) (hj : j < C) : ((vs.drop a).take C).getD j 0 = vs.getD (a + j) 0 := by
  rw [List.getD_eq_getElem?_getD, List.getD_eq_getElem?_getD, List.getElem?_take_of_lt hj, List.getElem?_drop]
theorem gad_chunk (x : Ci) (h : x.Good) (h3 : 3 ≤ x.k) {vs js : List Int} (hv : InF x.f vs) (hj : InF x.f js) (k : Nat) :
    gadV x (chunkQ x.f 1 vs js x.c.toNat k) = sumZ (fun j => dT x.f x.c.toNat vs js (k * x.c.toNat + j)) (min x.c.toNat (vs.length - k * x.c.toNat)) % M x.f := by
  have hC := h.fits.c h3
  obtain ⟨C, hCe⟩ : ∃ C, x.c.toNat = C := ⟨_, rfl⟩
  have hC1 : 1 ≤ C := by omega
  have ha : x.arityN = 2 * C := by unfold Ci.arityN; rw [if_neg (by omega), if_neg (by omega), hCe]
  rw [hCe]
  obtain ⟨ch, hch⟩ : ∃ ch, (vs.drop (k * C)).take C = ch := ⟨_, rfl⟩
  have hcl : ch.length = min C (vs.length - k * C) := by rw [← hch, List.length_take, List.length_drop]
  have hci : InF x.f ch := by rw [← hch]; exact (hv.drop _).take _
  unfold chunkQ gadV
  rw [hch, prL_length (by omega), ha, if_pos rfl, if_neg (by omega), Nat.mul_div_cancel_left _ (by decide), prq_chunk (getD_in' hj k) hci, Nat.min_eq_right (by omega), hcl]
  congr 1
  refine sumZ_congr fun j hj2 => ?_
  have hjC : j < C := by omega
  unfold dT
  rw [← hch, getD_chunk vs _ C j hjC, Nat.mul_comm k C, Nat.mul_add_div (by omega), Nat.mul_add_mod, Nat.div_eq_of_lt hjC, Nat.mod_eq_of_lt hjC, Nat.add_zero]
theorem totC_chunks {f : Int} (T : Nat → Int) (C N : Nat) {a : Nat → Int} (ha : ∀ k, a k = sumZ (fun j => T (k * C + j)) (min C (N - k * C)) % M f) : ∀ n, totC f a n = sumZ T (min (n * C) N) % M f
  | 0 => by simp [totC, sumZ]
  | n + 1 => by
    simp only [totC]
    rw [totC_chunks T C N ha n, ha n, add_mm, Nat.succ_mul]
    congr 1
    by_cases h : n * C ≤ N
    · rw [Nat.min_eq_left h, ← sumZ_cat]
      congr 1
      omega
    · rw [show N - n * C = 0 by omega, Nat.min_zero, Nat.min_eq_right (by omega), Nat.min_eq_right (by omega)]
      simp [sumZ]
theorem totS_bits {f : Int} {C : Nat} {vs js : List Int} (hv : InF f vs) (hj : InF f js) {a : Nat → Int} (ha : ∀ k, a k = mul f (vs.getD k 0) (sub f (vs.getD k 0) 1)) : ∀ n, n ≤ C → totS f (js.getD 0 0) a n = dS f C vs js n
  | 0, _ => by simp [totS, dS, sumZ]
  | n + 1, h => by
    simp only [totS]
    rw [totS_bits (C := C) hv hj ha n (by omega), ha n, ← dS_step (C := C) hv hj n, Nat.div_eq_of_lt (show n < C by omega), Nat.mod_eq_of_lt (show n < C by omega)]
theorem hz_bit {f y : Int} (hy : 0 ≤ y ∧ y < M f) : hz (mul f) (add f) y (bitCoefs f) = mul f y (sub f y 1) := by
  have hn : neg f 1 = (-1) % M f := by unfold neg; rw [redu_in (in_one f).1 (in_one f).2]
  have e0 : mul f 0 y = 0 := by rw [mul_in (in_zero f) hy, Int.zero_mul, Int.zero_emod]
  have e1 : add f 0 1 = 1 := by rw [add_in (in_zero f) (in_one f)]; exact in_em (in_one f)
  have e2 : mul f 1 y = y := by rw [mul_in (in_one f) hy, Int.one_mul]; exact in_em hy
  have e3 : add f y (neg f 1) = sub f y 1 := by
    have h := add_mm f y (-1)
    rw [in_em hy, ← hn] at h
    rw [h, sub_in hy (in_one f)]
    rfl
  have e4 : add f (mul f (sub f y 1) y) 0 = mul f (sub f y 1) y := by rw [add_in (mul_bound _ _ _) (in_zero f), Int.add_zero]; exact in_em (mul_bound _ _ _)
  show add f (mul f (add f (mul f (add f (mul f 0 y) 1) y) (neg f 1)) y) 0 = _
  rw [e0, e1, e2, e3, e4]
  unfold mul
  rw [Int.mul_comm]
/-- What a vector is said to be, without any asking. -/
def Ci.sizeN (x : Ci) : Nat := if x.k = 2 then x.b.toNat else x.c.toNat
def restV (x : Ci) (vs : List Int) : Int := if x.k = 4 then sub x.f (sumF x.f (vs.take x.l.toNat)) 1 else sub x.f (add x.f (sumF x.f (vs.take x.l.toNat)) (offN x.w.toNat : Int)) (numF x.f (vs.drop x.l.toNat))
def dirV (x : Ci) (vs js : List Int) : Int :=
  if x.k = 1 then sub x.f (mul x.f (vs.getD 0 0) (vs.getD 0 0)) (vs.getD 0 0)
  else if x.k < 4 then dS x.f x.sizeN vs js vs.length
  else add x.f (dS x.f x.sizeN vs js vs.length) (mul x.f (js.getD (x.jointN - 1) 0) (restV x vs))
theorem dirV_in (x : Ci) (vs js : List Int) : 0 ≤ dirV x vs js ∧ dirV x vs js < M x.f := by
  unfold dirV
  split
  · exact sub_bound _ _ _
  · split
    · exact dS_in _ _ _ _ _
    · exact add_bound _ _ _
theorem run_dir (x : Ci) (h : x.Good) {vs js : List Int} (hv : InF x.f vs) (hl : vs.length = x.inN) (hj : InF x.f js) : runF x vs js 1 (fun k => gadV x (askQ x vs js 1 k)) = dirV x vs js := by
  have hk1 := h.fits.k1
  have hk5 := h.fits.k5
  unfold runF dirV
  by_cases h1 : x.k = 1
  · rw [if_pos h1, if_pos h1]
    have ha : x.arityN = 2 := by unfold Ci.arityN; rw [if_pos h1]
    have hg : gadV x (askQ x vs js 1 0) = mul x.f (vs.getD 0 0) (vs.getD 0 0) := by
      unfold gadV askQ
      rw [if_pos h1, ha, if_pos (show [vs.getD 0 0, vs.getD 0 0].length = 2 from rfl), if_neg (by omega)]
      show add x.f 0 (mul x.f (vs.getD 0 0) (vs.getD 0 0)) = _
      rw [add_in (in_zero _) (mul_bound _ _ _), Int.zero_add]
      exact in_em (mul_bound _ _ _)
    show sub x.f (gadV x (askQ x vs js 1 0)) _ = _
    rw [hg]
  · rw [if_neg h1, if_neg h1]
    by_cases h2 : x.k = 2
    · have hN : x.inN = x.b.toNat := by unfold Ci.inN; rw [if_neg h1, if_pos h2]
      have hc : x.callsN = x.b.toNat := by unfold Ci.callsN; rw [if_neg h1, if_pos h2]
      have ha : x.arityN = 1 := by unfold Ci.arityN; rw [if_neg h1, if_pos h2]
      rw [if_pos h2, if_pos (by omega), hl, hN, hc]
      unfold Ci.sizeN
      rw [if_pos h2]
      refine totS_bits hv hj (fun k => ?_) _ (Nat.le_refl _)
      unfold gadV askQ
      rw [if_neg h1, if_pos h2, ha, if_pos (show [vs.getD k 0].length = 1 from rfl), if_pos h2]
      exact hz_bit (getD_in' hv k)
    · have h3 : 3 ≤ x.k := by omega
      have hC := h.fits.c h3
      have hs : x.sizeN = x.c.toNat := by unfold Ci.sizeN; rw [if_neg h2]
      have hc : x.callsN = pieces vs.length x.c.toNat := by unfold Ci.callsN; rw [if_neg h1, if_neg h2, hl]
      have ht : totC x.f (fun k => gadV x (askQ x vs js 1 k)) x.callsN = dS x.f x.sizeN vs js vs.length := by
        rw [totC_chunks (f := x.f) (dT x.f x.c.toNat vs js) x.c.toNat vs.length (fun k => by
          show gadV x (askQ x vs js 1 k) = _
          unfold askQ
          rw [if_neg h1, if_neg h2]
          exact gad_chunk x h h3 hv hj k)]
        unfold dS
        rw [hs, Nat.min_eq_right]
        rw [hc]
        exact Nat.le_of_not_lt fun hlt => Nat.lt_irrefl _ ((pieces_lt vs.length (pieces vs.length x.c.toNat) (by omega)).1 hlt)
      rw [if_neg h2, ht]
      have hd := dS_in x.f x.sizeN vs js vs.length
      by_cases h4 : x.k < 4
      · rw [if_pos h4]
        unfold weightF
        rw [if_neg (by omega), if_neg (by omega), add_in hd (in_zero _), Int.add_zero]
        exact in_em hd
      · rw [if_neg h4]
        congr 1
        unfold weightF restV
        by_cases h44 : x.k = 4
        · rw [if_pos h44, if_pos h44, List.take_of_length_le (by rw [hl]; unfold Ci.inN; rw [if_neg h1, if_neg h2, if_neg (by omega), if_pos h44]; exact Nat.le_refl _)]
        · rw [if_neg h44, if_pos (by omega), if_neg h44]
          congr 1
          have hW := h.fits.w (by omega)
          have hL := h.fits.l h3
          have ho := offN_le (W := x.w.toNat) (by omega)
          have hM := M_big x.f
          have hoi : (0 : Int) ≤ (offN x.w.toNat : Int) ∧ (offN x.w.toNat : Int) < M x.f := by omega
          have hS := sumF_bound x.f (vs.take x.l.toNat)
          have hN := numF_bound x.f (vs.drop x.l.toNat)
          have e1 : mul x.f (offN x.w.toNat : Int) 1 = (offN x.w.toNat : Int) := by rw [mul_in hoi (in_one _), Int.mul_one]; exact in_em hoi
          rw [e1, sub_in hS hN, add_in hS hoi]
          have e2 := add_mm x.f (sumF x.f (vs.take x.l.toNat) - numF x.f (vs.drop x.l.toNat)) (offN x.w.toNat : Int)
          rw [in_em hoi] at e2
          have e3 := sub_mm x.f (sumF x.f (vs.take x.l.toNat) + (offN x.w.toNat : Int)) (numF x.f (vs.drop x.l.toNat))
          rw [in_em hN] at e3
          rw [e2, e3]
          congr 1
          omega
theorem bits_take {xs : List Int} (h : bitsB xs = true) (k : Nat) : bitsB (xs.take k) = true := by
  unfold bitsB at *
  rw [List.all_eq_true] at *
  exact fun x hx => h x (List.mem_of_mem_take hx)
theorem bits_drop {xs : List Int} (h : bitsB xs = true) (k : Nat) : bitsB (xs.drop k) = true := by
  unfold bitsB at *
  rw [List.all_eq_true] at *
  exact fun x hx => h x (List.mem_of_mem_drop hx)
theorem bits_at {xs : List Int} (h : bitsB xs = true) (k : Nat) : xs.getD k 0 = 0 ∨ xs.getD k 0 = 1 := by
  by_cases hk : k < xs.length
  · unfold bitsB at h
    rw [List.all_eq_true] at h
    rw [List.getD_eq_getElem?_getD, List.getElem?_eq_getElem hk]
    simpa using h _ (List.getElem_mem hk)
  · rw [List.getD_eq_getElem?_getD, List.getElem?_eq_none (by omega)]
    exact .inl rfl
/-- Of a right vector nought is said. -/
theorem dir_right (x : Ci) (h : x.Good) {vs js : List Int} (hl : vs.length = x.inN) (hv : validB x vs = true) : dirV x vs js = 0 := by
  have hk1 := h.fits.k1
  have hk5 := h.fits.k5
  have hle := h.fits.in_le
  unfold validB at hv
  rw [Bool.and_eq_true] at hv
  obtain ⟨hb, hv⟩ := hv
  have hM := M_big x.f
  have e00 : mul x.f (js.getD (x.jointN - 1) 0) 0 = 0 := by
    unfold mul
    rw [redu_in (f := x.f) (x := 0) (in_zero x.f).1 (in_zero x.f).2, Int.mul_zero, Int.zero_emod]
  have hd : ∀ n, dS x.f x.sizeN vs js n = 0 := fun n => by
    unfold dS
    rw [sumZ_zero (fun i _ => by
      unfold dT
      rcases bits_at hb i with e | e <;> rw [e] <;> simp)]
    exact Int.zero_emod _
  unfold dirV
  by_cases h1 : x.k = 1
  · rw [if_pos h1]
    have e : ∀ z : Int, z = 0 ∨ z = 1 → sub x.f (mul x.f z z) z = 0 := fun z hz => by
      have hzi : 0 ≤ z ∧ z < M x.f := by omega
      rw [mul_in hzi hzi]
      have e2 := sub_mm x.f (z * z) z
      rw [in_em hzi] at e2
      rw [e2]
      have e3 : z * z - z = 0 := by rcases hz with rfl | rfl <;> rfl
      rw [e3]
      exact Int.zero_emod _
    exact e _ (bits_at hb 0)
  · rw [if_neg h1]
    by_cases h4 : x.k < 4
    · rw [if_pos h4]
      exact hd _
    · rw [if_neg h4, hd]
      have e : restV x vs = 0 := by
        unfold restV
        by_cases h44 : x.k = 4
        · rw [if_pos h44] at hv ⊢
          rw [List.take_of_length_le (by rw [hl]; unfold Ci.inN; rw [if_neg h1, if_neg (by omega), if_neg (by omega), if_pos h44]; exact Nat.le_refl _), sumF_bits x.f hb (by omega), of_decide_eq_true hv, sub_in (by omega) (by omega)]
          exact Int.zero_emod _
        · rw [if_neg h44] at hv ⊢
          rw [if_pos (by omega)] at hv
          have hv2 := of_decide_eq_true hv
          have hW := h.fits.w (by omega)
          have hL := h.fits.l (by omega)
          have ho := offN_le (W := x.w.toNat) (by omega)
          have hbl := bl_le (W := x.w.toNat) (by omega)
          have hll : vs.length = x.l.toNat + Lib.bitLen x.w.toNat := by rw [hl]; unfold Ci.inN; rw [if_neg h1, if_neg (by omega), if_neg (by omega), if_neg h44]
          have hon := ones_le (bits_take hb x.l.toNat)
          rw [List.length_take] at hon
          rw [sumF_bits x.f (bits_take hb _) (by rw [List.length_take]; omega), numF_bits x.f (bits_drop hb _) (by rw [List.length_drop]; omega), ← hv2, add_in (by omega) (by omega), in_em (by omega), sub_in (by omega) (by omega)]
          have ez : ((ones (vs.take x.l.toNat) : Int) + (offN x.w.toNat : Int) - ((ones (vs.take x.l.toNat) + offN x.w.toNat : Nat) : Int)) = 0 := by omega
          rw [ez]
          exact Int.zero_emod _
      rw [e, e00]
      exact (add_in (in_zero _) (in_zero _)).trans (Int.zero_emod _)
end Go.Proofs.YtgdokfchfgnbbaaGreat
