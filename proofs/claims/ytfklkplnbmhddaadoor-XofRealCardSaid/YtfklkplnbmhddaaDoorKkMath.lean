/-
  Numbers of 64 bits in rows; how far they are turned.
-/
import Derived.WalkKit
import Derived.Laws.BitsAllLaws
import Derived.Test.YtfklkplnbmhddaaDoorFlow
import Derived.Test.YtfklkplnbmhddaaDoorMid
namespace Go.Proofs.YtfklkplnbmhddaaDoor
open Go Go.RowKit Flow
set_option linter.unusedVariables false

/-- Turned left. -/
def rl (n k : Nat) : Nat := n * 2 ^ k % 18446744073709551616 + n / 2 ^ (64 - k)
/-- Turned left by one, so often. -/
def rot (n : Nat) : Nat → Nat
  | 0 => n
  | k + 1 => (rot n k * 2 + rot n k / 9223372036854775808) % 18446744073709551616
theorem rl_parts (n k : Nat) (hk : k ≤ 64) (hn : n < 18446744073709551616) : rl n k = n % 2 ^ (64 - k) * 2 ^ k + n / 2 ^ (64 - k) := by
  unfold rl
  congr 1
  have e : (18446744073709551616 : Nat) = 2 ^ (64 - k) * 2 ^ k := by rw [← Nat.pow_add, Nat.sub_add_cancel hk]
  rw [e, Nat.mul_mod_mul_right]
theorem rl_lt (n k : Nat) (hk : k ≤ 64) (hn : n < 18446744073709551616) : rl n k < 18446744073709551616 := by
  rw [rl_parts n k hk hn]
  have e : (18446744073709551616 : Nat) = 2 ^ (64 - k) * 2 ^ k := by rw [← Nat.pow_add, Nat.sub_add_cancel hk]
  have h1 : n % 2 ^ (64 - k) < 2 ^ (64 - k) := Nat.mod_lt _ (Nat.pow_pos (by decide))
  have h2 : n / 2 ^ (64 - k) < 2 ^ k := by
    rw [Nat.div_lt_iff_lt_mul (Nat.pow_pos (by decide)), Nat.mul_comm, ← e]; exact hn
  rw [e]
  calc n % 2 ^ (64 - k) * 2 ^ k + n / 2 ^ (64 - k) < n % 2 ^ (64 - k) * 2 ^ k + 2 ^ k := by omega
    _ = (n % 2 ^ (64 - k) + 1) * 2 ^ k := by rw [Nat.add_mul, Nat.one_mul]
    _ ≤ 2 ^ (64 - k) * 2 ^ k := Nat.mul_le_mul_right _ h1
theorem rl_zero (n : Nat) (hn : n < 18446744073709551616) : rl n 0 = n := by
  unfold rl
  rw [Nat.pow_zero, Nat.mul_one, Nat.mod_eq_of_lt hn]
  have : n / 2 ^ (64 - 0) = 0 := Nat.div_eq_of_lt hn
  omega
theorem rl_succ (n k : Nat) (hk : k < 64) (hn : n < 18446744073709551616) : rl n (k + 1) = (rl n k * 2 + rl n k / 9223372036854775808) % 18446744073709551616 := by
  rw [rl_parts n (k + 1) (by omega) hn, rl_parts n k (by omega) hn]
  obtain ⟨m, hm⟩ : ∃ m, 64 - (k + 1) = m := ⟨_, rfl⟩
  have hm2 : 64 - k = m + 1 := by omega
  rw [hm, hm2]
  have e63 : (9223372036854775808 : Nat) = 2 ^ m * 2 ^ k := by rw [← Nat.pow_add, show m + k = 63 by omega]
  have e64 : (18446744073709551616 : Nat) = 2 * (2 ^ m * 2 ^ k) := by rw [← Nat.pow_add, show m + k = 63 by omega]
  have hM : 0 < 2 ^ m := Nat.pow_pos (by decide)
  have hK : 0 < 2 ^ k := Nat.pow_pos (by decide)
  rw [e64] at hn
  rw [e63, e64, Nat.pow_succ, Nat.pow_succ]
  generalize 2 ^ m = M at *
  generalize 2 ^ k = K at *
  -- n = a * (2 M) + c * M + d
  obtain ⟨a, ha⟩ : ∃ a, n / (M * 2) = a := ⟨_, rfl⟩
  obtain ⟨d, hd⟩ : ∃ d, n % M = d := ⟨_, rfl⟩
  have hdl : d < M := by rw [← hd]; exact Nat.mod_lt _ hM
  obtain ⟨c, hc⟩ : ∃ c, n / M = 2 * a + c ∧ c < 2 := by
    refine ⟨n / M % 2, ?_, Nat.mod_lt _ (by decide)⟩
    have : n / (M * 2) = n / M / 2 := by rw [Nat.div_div_eq_div_mul]
    rw [← ha, this]
    exact (Nat.div_add_mod (n / M) 2).symm
  obtain ⟨hc1, hc2⟩ := hc
  have hb : n % (M * 2) = c * M + d := by
    have h1 := Nat.div_add_mod n M
    have h2 := Nat.div_add_mod n (M * 2)
    rw [hc1, hd] at h1
    rw [ha] at h2
    have h3 : M * (2 * a + c) = M * 2 * a + c * M := by rw [Nat.mul_add, ← Nat.mul_assoc, Nat.mul_comm M c]
    omega
  have haK : a < K := by
    rw [← ha, Nat.div_lt_iff_lt_mul (by omega)]
    have : K * (M * 2) = 2 * (M * K) := by rw [Nat.mul_comm K, Nat.mul_assoc, Nat.mul_left_comm]
    omega
  rw [hb, hd, ha, hc1]
  have hdK : d * K + a < M * K := by
    have : (d + 1) * K ≤ M * K := Nat.mul_le_mul_right _ hdl
    rw [Nat.add_mul, Nat.one_mul] at this
    omega
  have hx : (c * M + d) * K + a = c * (M * K) + (d * K + a) := by rw [Nat.add_mul, Nat.mul_assoc]; omega
  rw [hx]
  have hdiv : (c * (M * K) + (d * K + a)) / (M * K) = c := by
    rw [Nat.mul_comm c, Nat.mul_add_div (Nat.mul_pos hM hK), Nat.div_eq_of_lt hdK]; rfl
  rw [hdiv]
  have h2 : d * (K * 2) = 2 * (d * K) := by rw [← Nat.mul_assoc, Nat.mul_comm]
  rw [h2]
  have hc3 : c = 0 ∨ c = 1 := by omega
  rcases hc3 with rfl | rfl
  · rw [Nat.mod_eq_of_lt (by omega)]
    omega
  · have : (1 * (M * K) + (d * K + a)) * 2 + 1 = 2 * (M * K) + (2 * (d * K) + (2 * a + 1)) := by omega
    rw [this, Nat.add_mod_left, Nat.mod_eq_of_lt (by omega)]
theorem rot_rl (n : Nat) (hn : n < 18446744073709551616) : ∀ k, k ≤ 64 → rot n k = rl n k
  | 0, _ => (rl_zero n hn).symm
  | k + 1, h => by
    unfold rot
    rw [rot_rl n hn k (by omega), rl_succ n k (by omega) hn]

/-- A row, one of its numbers being another. -/
def upd (f : Nat → Nat) (k v : Nat) : Nat → Nat := fun i => if i = k then v else f i
def arr (f : Nat → Nat) (n : Nat) : List Value := (List.range n).map (fun i => Value.int .u64 ((f i : Nat) : Int))
theorem arr_len (f : Nat → Nat) (n : Nat) : (arr f n).length = n := by simp [arr]
theorem arr_get (f : Nat → Nat) {n i : Nat} (h : i < n) : (arr f n)[i]? = some (.int .u64 ((f i : Nat) : Int)) := by simp [arr, h]
theorem arr_congr {f g : Nat → Nat} {n : Nat} (h : ∀ i, i < n → f i = g i) : arr f n = arr g n := by
  unfold arr
  exact List.map_congr_left fun i hi => by rw [h i (List.mem_range.1 hi)]
theorem arr_one (f : Nat → Nat) (n : Nat) : ∀ u ∈ arr f n, u.oneCell' = true := by
  intro u hu
  obtain ⟨i, _, rfl⟩ := List.mem_map.1 hu
  rfl
theorem arr_set (f : Nat → Nat) {n k : Nat} (v : Nat) : (arr f n).toArray.setIfInBounds k (.int .u64 ((v : Nat) : Int)) = (arr (upd f k v) n).toArray := by
  refine Array.ext_getElem? fun i => ?_
  simp only [List.setIfInBounds_toArray, List.getElem?_toArray]
  rw [List.getElem?_set]
  by_cases h : k = i
  · subst h
    by_cases hk : k < n
    · rw [if_pos rfl, if_pos (by rw [arr_len]; exact hk), arr_get _ hk]
      simp [upd]
    · rw [if_pos rfl, if_neg (by rw [arr_len]; exact hk), List.getElem?_eq_none (by rw [arr_len]; omega)]
  · rw [if_neg h]
    by_cases hi : i < n
    · rw [arr_get _ hi, arr_get _ hi]
      have : i ≠ k := fun e => h e.symm
      simp [upd, this]
    · rw [List.getElem?_eq_none (by rw [arr_len]; omega), List.getElem?_eq_none (by rw [arr_len]; omega)]
/-- A block of numbers. -/
def Nums (w : World) (b : Nat) (t : TypeId) (n : Nat) (f : Nat → Nat) : Prop := w.heap[b]? = some (.cells (arr f n).toArray t (0, 0))
theorem Nums.cell {w : World} {b : Nat} {t : TypeId} {n i : Nat} {f : Nat → Nat} (h : Nums w b t n f) (hi : i < n) : w.cell? ⟨b, i, none⟩ = some (.int .u64 ((f i : Nat) : Int)) := by
  unfold Nums at h
  simp [World.cell?, h, arr_get f hi]
theorem Nums.free {w : World} {b : Nat} {t : TypeId} {n i : Nat} {f : Nat → Nat} (h : Nums w b t n f) : w.frozen? ⟨b, i, none⟩ = false := by
  unfold Nums at h
  simp [World.frozen?, h]
theorem Nums.set {w : World} {b : Nat} {t : TypeId} {n k : Nat} {f : Nat → Nat} (h : Nums w b t n f) (v : Nat) : Nums (w.setCell ⟨b, k, none⟩ (.int .u64 ((v : Nat) : Int))) b t n (upd f k v) := by
  unfold Nums at h ⊢
  rw [store1 h, arr_set]
theorem Nums.up {w w' : World} {b : Nat} {t : TypeId} {n : Nat} {f : Nat → Nat} (h : Nums w b t n f) (hb : Below w.heap.size w w') : Nums w' b t n f := (hb.block b (lt_of_get h)).trans h
theorem Nums.but {w w' : World} {b p : Nat} {t : TypeId} {n : Nat} {f : Nat → Nat} (h : Nums w b t n f) (hb : But p w w') (hne : b ≠ p) : Nums w' b t n f := (hb.block b (lt_of_get h) hne).trans h
theorem Nums.congr {w : World} {b : Nat} {t : TypeId} {n : Nat} {f g : Nat → Nat} (h : Nums w b t n f) (e : ∀ i, i < n → f i = g i) : Nums w b t n g := by
  unfold Nums at h ⊢
  rw [h, arr_congr e]
theorem Nums.far {w : World} {b p o : Nat} {t : TypeId} {n : Nat} {f : Nat → Nat} {v : Value} (h : Nums w b t n f) (hne : b ≠ p) : Nums (w.setCell ⟨p, o, none⟩ v) b t n f := store_far h hne
theorem Nums.lt {w : World} {b : Nat} {t : TypeId} {n : Nat} {f : Nat → Nat} (h : Nums w b t n f) : b < w.heap.size := lt_of_get h
theorem Nums.at0 {w : World} {b : Nat} {t : TypeId} {n : Nat} {f : Nat → Nat} (h : Nums w b t n f) : At0 w b (arr f n) := At0.of_block h
/-- A state at the head of a block. -/
def Sta (w : World) (b : Nat) (t : TypeId) (tl : List Value) (f : Nat → Nat) : Prop := w.heap[b]? = some (.cells (arr f 25 ++ tl).toArray t (0, 0))
theorem sta_get (f : Nat → Nat) (tl : List Value) {i : Nat} (h : i < 25) : (arr f 25 ++ tl)[i]? = some (.int .u64 ((f i : Nat) : Int)) := by
  rw [List.getElem?_append_left (by rw [arr_len]; exact h), arr_get f h]
theorem Sta.cell {w : World} {b : Nat} {t : TypeId} {tl : List Value} {i : Nat} {f : Nat → Nat} (h : Sta w b t tl f) (hi : i < 25) : w.cell? ⟨b, i, none⟩ = some (.int .u64 ((f i : Nat) : Int)) := by
  unfold Sta at h
  have := sta_get f tl hi
  simp only [World.cell?, h]
  simpa using this
theorem Sta.tail {w : World} {b : Nat} {t : TypeId} {tl : List Value} {i : Nat} {f : Nat → Nat} {v : Value} (h : Sta w b t tl f) (hv : tl[i]? = some v) : w.cell? ⟨b, 25 + i, none⟩ = some v := by
  unfold Sta at h
  have : (arr f 25 ++ tl)[25 + i]? = some v := by
    rw [List.getElem?_append_right (by rw [arr_len]; omega), arr_len, Nat.add_sub_cancel_left, hv]
  simp only [World.cell?, h]
  simpa using this
theorem Sta.free {w : World} {b : Nat} {t : TypeId} {tl : List Value} {i : Nat} {f : Nat → Nat} (h : Sta w b t tl f) : w.frozen? ⟨b, i, none⟩ = false := by
  unfold Sta at h
  simp [World.frozen?, h]
theorem Sta.set {w : World} {b : Nat} {t : TypeId} {tl : List Value} {k : Nat} {f : Nat → Nat} (h : Sta w b t tl f) (hk : k < 25) (v : Nat) : Sta (w.setCell ⟨b, k, none⟩ (.int .u64 ((v : Nat) : Int))) b t tl (upd f k v) := by
  unfold Sta at h ⊢
  rw [store1 h]
  congr 2
  have e : (arr f 25 ++ tl).toArray.setIfInBounds k (.int .u64 ((v : Nat) : Int)) = ((arr f 25).set k (.int .u64 ((v : Nat) : Int)) ++ tl).toArray := by
    rw [List.setIfInBounds_toArray, List.set_append_left _ _ (by rw [arr_len]; exact hk)]
  have e2 : (arr f 25).set k (.int .u64 ((v : Nat) : Int)) = arr (upd f k v) 25 := by
    have := arr_set f (n := 25) (k := k) v
    simpa using this
  rw [e, e2]
theorem Sta.setTail {w : World} {b : Nat} {t : TypeId} {tl : List Value} {k : Nat} {f : Nat → Nat} (h : Sta w b t tl f) (v : Value) : Sta (w.setCell ⟨b, 25 + k, none⟩ v) b t (tl.set k v) f := by
  unfold Sta at h ⊢
  rw [store1 h]
  congr 2
  rw [List.setIfInBounds_toArray, List.set_append_right _ _ (by rw [arr_len]; omega), arr_len, Nat.add_sub_cancel_left]
theorem Sta.up {w w' : World} {b : Nat} {t : TypeId} {tl : List Value} {f : Nat → Nat} (h : Sta w b t tl f) (hb : Below w.heap.size w w') : Sta w' b t tl f := (hb.block b (lt_of_get h)).trans h
theorem Sta.but {w w' : World} {b p : Nat} {t : TypeId} {tl : List Value} {f : Nat → Nat} (h : Sta w b t tl f) (hb : But p w w') (hne : b ≠ p) : Sta w' b t tl f := (hb.block b (lt_of_get h) hne).trans h
theorem Sta.congr {w : World} {b : Nat} {t : TypeId} {tl : List Value} {f g : Nat → Nat} (h : Sta w b t tl f) (e : ∀ i, i < 25 → f i = g i) : Sta w b t tl g := by
  unfold Sta at h ⊢
  rw [h, arr_congr e]
theorem Sta.far {w : World} {b p o : Nat} {t : TypeId} {tl : List Value} {f : Nat → Nat} {v : Value} (h : Sta w b t tl f) (hne : b ≠ p) : Sta (w.setCell ⟨p, o, none⟩ v) b t tl f := store_far h hne
theorem Sta.lt {w : World} {b : Nat} {t : TypeId} {tl : List Value} {f : Nat → Nat} (h : Sta w b t tl f) : b < w.heap.size := lt_of_get h
theorem Sta.at0 {w : World} {b : Nat} {t : TypeId} {tl : List Value} {f : Nat → Nat} (h : Sta w b t tl f) : At0 w b (arr f 25) := fun j v hj => by
  have hj' : j < 25 := by have := (List.getElem?_eq_some_iff.1 hj).1; rwa [arr_len] at this
  rw [Nat.zero_add, h.cell hj']
  rw [arr_get f hj'] at hj
  exact hj
theorem Nums.sta {w : World} {b : Nat} {t : TypeId} {f : Nat → Nat} (h : Nums w b t 25 f) : Sta w b t [] f := by
  unfold Nums at h
  unfold Sta
  rw [h, List.append_nil]
theorem Sta.nums {w : World} {b : Nat} {t : TypeId} {f : Nat → Nat} (h : Sta w b t [] f) : Nums w b t 25 f := by
  unfold Sta at h
  rw [List.append_nil] at h
  exact h
theorem build_front (l old tl : List Value) (h : old.length = l.length) : List.foldl (fun (cs : Array Value) (x : Value × Nat) => cs.setIfInBounds x.2 x.1) (old ++ tl).toArray l.zipIdx = (l ++ tl).toArray := by
  obtain ⟨h1, h2⟩ := build_get l 0 (old ++ tl).toArray
  refine Array.ext_getElem? fun i => ?_
  by_cases hi : i < (old ++ tl).toArray.size
  · rw [h2 i hi]
    by_cases hl : i < l.length
    · rw [if_pos (by omega)]
      simp [List.getElem?_append_left, hl]
    · rw [if_neg (by omega)]
      simp only [List.getElem?_toArray]
      rw [List.getElem?_append_right (by omega), List.getElem?_append_right (by omega), h]
  · have hs : (l ++ tl).toArray.size = (old ++ tl).toArray.size := by simp [h]
    rw [Array.getElem?_eq_none (by omega), Array.getElem?_eq_none (by omega)]
/-- The head of a variable is written. -/
theorem list_store_front {P : Program} {ops : Array Oper} {rest : List Oper} {op : Oper} {a : Act} {w : World} {Q : Exit → Act → World → Prop} (ty : TypeId) (x y : Operand) (b : Nat) (cs old tl : List Value) (t' : TypeId)
    (hw : Region.wanted op (yielded ops a.tmps) = true) (ho : op.op = .store ty x y) (hx : a.eval x = .pointer (some ⟨b, 0, none⟩)) (hy : a.eval y = .agg cs.toArray)
    (hb : w.heap[b]? = some (.cells (old ++ tl).toArray t' (0, 0))) (hl : old.length = cs.length) (hi : (P.info? ty).map (·.size) = some cs.length) (h1 : ∀ u ∈ cs, u.oneCell' = true)
    (h : ∀ w', But b w w' → w'.heap[b]? = some (.cells (cs ++ tl).toArray t' (0, 0)) → wpList P ops Q rest (a.put op.dst undef) w') : wpList P ops Q (op :: rest) a w :=
  wpList_step fun _ hK => by
    rw [if_pos hw]
    refine wp_store_mid ty x y ho b 0 cs.toArray hx hy (fun j hj => ?_) (by simpa using hi) (by simpa using h1) (hK _ _ (h _ ((But.refl b w).setCells cs 0 w) ?_))
    · have hj' : j < old.length := by rw [hl]; simpa using hj
      simp [World.cell?, World.frozen?, hb]
      omega
    · rw [heap_setCells _ _ _ _ _ _ _ hb, build_front _ _ _ hl]
end Go.Proofs.YtfklkplnbmhddaaDoor
