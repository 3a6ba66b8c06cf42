import Derived.WalkKit
import Derived.Laws.BitsAllLaws
import Derived.Test.YtpojhomccmfffaaDoorBA
import Derived.Test.YtpojhomccmfffaaDoorBX
import Derived.Test.YtpojhomccmfffaaDoorBB
import Derived.Test.YtpojhomccmfffaaDoorChecked
import Derived.ProofKit
import Derived.Outline
import Derived.Lib.Hide
import Derived.BigQuiet
import Derived.Deep.RegionWith
import Derived.Deep.DeepCutAuto
import Derived.Deep.CutBlock
import Derived.Deep.MidRow
/-
  Numbers of 64 bits in rows; how far they are turned.
-/
namespace Go.Proofs.YtpojhomccmfffaaDoor
open Go Go.RowKit Flow
set_option linter.unusedVariables false

/-- Turned left. -/
def rl (n k : Nat) : Nat := n * 2 ^ k % 18446744073709551616 + n / 2 ^ (64 - k)
/-- Turned left by one, so often. -/
def rot (n : Nat) : Nat → Nat
  | 0 => n
  | k + 1 => (rot n k * 2 + rot n k / 9223372036854775808) % 18446744073709551616
theorem rl_parts (n k : Nat) (hk : k ≤ 64) (hn : n < 18446744073709551616) : rl n k = n % 2 ^ (64 - k) * 2 ^ k + n / 2 ^ (64 - k) := by
  unfold rl
  congr 1
  have e : (18446744073709551616 : Nat) = 2 ^ (64 - k) * 2 ^ k := by rw [← Nat.pow_add, Nat.sub_add_cancel hk]
  rw [e, Nat.mul_mod_mul_right]
theorem rl_lt (n k : Nat) (hk : k ≤ 64) (hn : n < 18446744073709551616) : rl n k < 18446744073709551616 := by
  rw [rl_parts n k hk hn]
  have e : (18446744073709551616 : Nat) = 2 ^ (64 - k) * 2 ^ k := by rw [← Nat.pow_add, Nat.sub_add_cancel hk]
  have h1 : n % 2 ^ (64 - k) < 2 ^ (64 - k) := Nat.mod_lt _ (Nat.pow_pos (by decide))
  have h2 : n / 2 ^ (64 - k) < 2 ^ k := by
    rw [Nat.div_lt_iff_lt_mul (Nat.pow_pos (by decide)), Nat.mul_comm, ← e]; exact hn
  rw [e]
  calc n % 2 ^ (64 - k) * 2 ^ k + n / 2 ^ (64 - k) < n % 2 ^ (64 - k) * 2 ^ k + 2 ^ k := by omega
    _ = (n % 2 ^ (64 - k) + 1) * 2 ^ k := by rw [Nat.add_mul, Nat.one_mul]
    _ ≤ 2 ^ (64 - k) * 2 ^ k := Nat.mul_le_mul_right _ h1
theorem rl_zero (n : Nat) (hn : n < 18446744073709551616) : rl n 0 = n := by
  unfold rl
  rw [Nat.pow_zero, Nat.mul_one, Nat.mod_eq_of_lt hn]
  have : n / 2 ^ (64 - 0) = 0 := Nat.div_eq_of_lt hn
  omega
theorem rl_succ (n k : Nat) (hk : k < 64) (hn : n < 18446744073709551616) : rl n (k + 1) = (rl n k * 2 + rl n k / 9223372036854775808) % 18446744073709551616 := by
  rw [rl_parts n (k + 1) (by omega) hn, rl_parts n k (by omega) hn]
  obtain ⟨m, hm⟩ : ∃ m, 64 - (k + 1) = m := ⟨_, rfl⟩
  have hm2 : 64 - k = m + 1 := by omega
  rw [hm, hm2]
  have e63 : (9223372036854775808 : Nat) = 2 ^ m * 2 ^ k := by rw [← Nat.pow_add, show m + k = 63 by omega]
  have e64 : (18446744073709551616 : Nat) = 2 * (2 ^ m * 2 ^ k) := by rw [← Nat.pow_add, show m + k = 63 by omega]
  have hM : 0 < 2 ^ m := Nat.pow_pos (by decide)
  have hK : 0 < 2 ^ k := Nat.pow_pos (by decide)
  rw [e64] at hn
  rw [e63, e64, Nat.pow_succ, Nat.pow_succ]
  generalize 2 ^ m = M at *
  generalize 2 ^ k = K at *
  -- n = a * (2 M) + c * M + d
  obtain ⟨a, ha⟩ : ∃ a, n / (M * 2) = a := ⟨_, rfl⟩
  obtain ⟨d, hd⟩ : ∃ d, n % M = d := ⟨_, rfl⟩
  have hdl : d < M := by rw [← hd]; exact Nat.mod_lt _ hM
  obtain ⟨c, hc⟩ : ∃ c, n / M = 2 * a + c ∧ c < 2 := by
    refine ⟨n / M % 2, ?_, Nat.mod_lt _ (by decide)⟩
    have : n / (M * 2) = n / M / 2 := by rw [Nat.div_div_eq_div_mul]
    rw [← ha, this]
    exact (Nat.div_add_mod (n / M) 2).symm
  obtain ⟨hc1, hc2⟩ := hc
  have hb : n % (M * 2) = c * M + d := by
    have h1 := Nat.div_add_mod n M
    have h2 := Nat.div_add_mod n (M * 2)
    rw [hc1, hd] at h1
    rw [ha] at h2
    have h3 : M * (2 * a + c) = M * 2 * a + c * M := by rw [Nat.mul_add, ← Nat.mul_assoc, Nat.mul_comm M c]
    omega
  have haK : a < K := by
    rw [← ha, Nat.div_lt_iff_lt_mul (by omega)]
    have : K * (M * 2) = 2 * (M * K) := by rw [Nat.mul_comm K, Nat.mul_assoc, Nat.mul_left_comm]
    omega
  rw [hb, hd, ha, hc1]
  have hdK : d * K + a < M * K := by
    have : (d + 1) * K ≤ M * K := Nat.mul_le_mul_right _ hdl
    rw [Nat.add_mul, Nat.one_mul] at this
    omega
  have hx : (c * M + d) * K + a = c * (M * K) + (d * K + a) := by rw [Nat.add_mul, Nat.mul_assoc]; omega
  rw [hx]
  have hdiv : (c * (M * K) + (d * K + a)) / (M * K) = c := by
    rw [Nat.mul_comm c, Nat.mul_add_div (Nat.mul_pos hM hK), Nat.div_eq_of_lt hdK]; rfl
  rw [hdiv]
  have h2 : d * (K * 2) = 2 * (d * K) := by rw [← Nat.mul_assoc, Nat.mul_comm]
  rw [h2]
  have hc3 : c = 0 ∨ c = 1 := by omega
  rcases hc3 with rfl | rfl
  · rw [Nat.mod_eq_of_lt (by omega)]
    omega
  · have : (1 * (M * K) + (d * K + a)) * 2 + 1 = 2 * (M * K) + (2 * (d * K) + (2 * a + 1)) := by omega
    rw [this, Nat.add_mod_left, Nat.mod_eq_of_lt (by omega)]
theorem rot_rl (n : Nat) (hn : n < 18446744073709551616) : ∀ k, k ≤ 64 → rot n k = rl n k
  | 0, _ => (rl_zero n hn).symm
  | k + 1, h => by
    unfold rot
    rw [rot_rl n hn k (by omega), rl_succ n k (by omega) hn]

/-- A row, one of its numbers being another. -/
def upd (f : Nat → Nat) (k v : Nat) : Nat → Nat := fun i => if i = k then v else f i
def arr (f : Nat → Nat) (n : Nat) : List Value := (List.range n).map (fun i => Value.int .u64 ((f i : Nat) : Int))
theorem arr_len (f : Nat → Nat) (n : Nat) : (arr f n).length = n := by simp [arr]
theorem arr_get (f : Nat → Nat) {n i : Nat} (h : i < n) : (arr f n)[i]? = some (.int .u64 ((f i : Nat) : Int)) := by simp [arr, h]
theorem arr_congr {f g : Nat → Nat} {n : Nat} (h : ∀ i, i < n → f i = g i) : arr f n = arr g n := by
  unfold arr
  exact List.map_congr_left fun i hi => by rw [h i (List.mem_range.1 hi)]
theorem arr_one (f : Nat → Nat) (n : Nat) : ∀ u ∈ arr f n, u.oneCell' = true := by
  intro u hu
  obtain ⟨i, _, rfl⟩ := List.mem_map.1 hu
  rfl
theorem arr_set (f : Nat → Nat) {n k : Nat} (v : Nat) : (arr f n).toArray.setIfInBounds k (.int .u64 ((v : Nat) : Int)) = (arr (upd f k v) n).toArray := by
  refine Array.ext_getElem? fun i => ?_
  simp only [List.setIfInBounds_toArray, List.getElem?_toArray]
  rw [List.getElem?_set]
  by_cases h : k = i
  · subst h
    by_cases hk : k < n
    · rw [if_pos rfl, if_pos (by rw [arr_len]; exact hk), arr_get _ hk]
      simp [upd]
    · rw [if_pos rfl, if_neg (by rw [arr_len]; exact hk), List.getElem?_eq_none (by rw [arr_len]; omega)]
  · rw [if_neg h]
    by_cases hi : i < n
    · rw [arr_get _ hi, arr_get _ hi]
      have : i ≠ k := fun e => h e.symm
      simp [upd, this]
    · rw [List.getElem?_eq_none (by rw [arr_len]; omega), List.getElem?_eq_none (by rw [arr_len]; omega)]
/-- A block of numbers. -/
def Nums (w : World) (b : Nat) (t : TypeId) (n : Nat) (f : Nat → Nat) : Prop := w.heap[b]? = some (.cells (arr f n).toArray t (0, 0))
theorem Nums.cell {w : World} {b : Nat} {t : TypeId} {n i : Nat} {f : Nat → Nat} (h : Nums w b t n f) (hi : i < n) : w.cell? ⟨b, i, none⟩ = some (.int .u64 ((f i : Nat) : Int)) := by
  unfold Nums at h
  simp [World.cell?, h, arr_get f hi]
theorem Nums.free {w : World} {b : Nat} {t : TypeId} {n i : Nat} {f : Nat → Nat} (h : Nums w b t n f) : w.frozen? ⟨b, i, none⟩ = false := by
  unfold Nums at h
  simp [World.frozen?, h]
theorem Nums.set {w : World} {b : Nat} {t : TypeId} {n k : Nat} {f : Nat → Nat} (h : Nums w b t n f) (v : Nat) : Nums (w.setCell ⟨b, k, none⟩ (.int .u64 ((v : Nat) : Int))) b t n (upd f k v) := by
  unfold Nums at h ⊢
  rw [store1 h, arr_set]
theorem Nums.up {w w' : World} {b : Nat} {t : TypeId} {n : Nat} {f : Nat → Nat} (h : Nums w b t n f) (hb : Below w.heap.size w w') : Nums w' b t n f := (hb.block b (lt_of_get h)).trans h
theorem Nums.but {w w' : World} {b p : Nat} {t : TypeId} {n : Nat} {f : Nat → Nat} (h : Nums w b t n f) (hb : But p w w') (hne : b ≠ p) : Nums w' b t n f := (hb.block b (lt_of_get h) hne).trans h
theorem Nums.congr {w : World} {b : Nat} {t : TypeId} {n : Nat} {f g : Nat → Nat} (h : Nums w b t n f) (e : ∀ i, i < n → f i = g i) : Nums w b t n g := by
  unfold Nums at h ⊢
  rw [h, arr_congr e]
theorem Nums.far {w : World} {b p o : Nat} {t : TypeId} {n : Nat} {f : Nat → Nat} {v : Value} (h : Nums w b t n f) (hne : b ≠ p) : Nums (w.setCell ⟨p, o, none⟩ v) b t n f := store_far h hne
theorem Nums.lt {w : World} {b : Nat} {t : TypeId} {n : Nat} {f : Nat → Nat} (h : Nums w b t n f) : b < w.heap.size := lt_of_get h
theorem Nums.at0 {w : World} {b : Nat} {t : TypeId} {n : Nat} {f : Nat → Nat} (h : Nums w b t n f) : At0 w b (arr f n) := At0.of_block h
/-- A state at the head of a block. -/
def Sta (w : World) (b : Nat) (t : TypeId) (tl : List Value) (f : Nat → Nat) : Prop := w.heap[b]? = some (.cells (arr f 25 ++ tl).toArray t (0, 0))
theorem sta_get (f : Nat → Nat) (tl : List Value) {i : Nat} (h : i < 25) : (arr f 25 ++ tl)[i]? = some (.int .u64 ((f i : Nat) : Int)) := by
  rw [List.getElem?_append_left (by rw [arr_len]; exact h), arr_get f h]
theorem Sta.cell {w : World} {b : Nat} {t : TypeId} {tl : List Value} {i : Nat} {f : Nat → Nat} (h : Sta w b t tl f) (hi : i < 25) : w.cell? ⟨b, i, none⟩ = some (.int .u64 ((f i : Nat) : Int)) := by
  unfold Sta at h
  have := sta_get f tl hi
  simp only [World.cell?, h]
  simpa using this
theorem Sta.tail {w : World} {b : Nat} {t : TypeId} {tl : List Value} {i : Nat} {f : Nat → Nat} {v : Value} (h : Sta w b t tl f) (hv : tl[i]? = some v) : w.cell? ⟨b, 25 + i, none⟩ = some v := by
  unfold Sta at h
  have : (arr f 25 ++ tl)[25 + i]? = some v := by
    rw [List.getElem?_append_right (by rw [arr_len]; omega), arr_len, Nat.add_sub_cancel_left, hv]
  simp only [World.cell?, h]
  simpa using this
theorem Sta.free {w : World} {b : Nat} {t : TypeId} {tl : List Value} {i : Nat} {f : Nat → Nat} (h : Sta w b t tl f) : w.frozen? ⟨b, i, none⟩ = false := by
  unfold Sta at h
  simp [World.frozen?, h]
theorem Sta.set {w : World} {b : Nat} {t : TypeId} {tl : List Value} {k : Nat} {f : Nat → Nat} (h : Sta w b t tl f) (hk : k < 25) (v : Nat) : Sta (w.setCell ⟨b, k, none⟩ (.int .u64 ((v : Nat) : Int))) b t tl (upd f k v) := by
  unfold Sta at h ⊢
  rw [store1 h]
  congr 2
  have e : (arr f 25 ++ tl).toArray.setIfInBounds k (.int .u64 ((v : Nat) : Int)) = ((arr f 25).set k (.int .u64 ((v : Nat) : Int)) ++ tl).toArray := by
    rw [List.setIfInBounds_toArray, List.set_append_left _ _ (by rw [arr_len]; exact hk)]
  have e2 : (arr f 25).set k (.int .u64 ((v : Nat) : Int)) = arr (upd f k v) 25 := by
    have := arr_set f (n := 25) (k := k) v
    simpa using this
  rw [e, e2]
theorem Sta.setTail {w : World} {b : Nat} {t : TypeId} {tl : List Value} {k : Nat} {f : Nat → Nat} (h : Sta w b t tl f) (v : Value) : Sta (w.setCell ⟨b, 25 + k, none⟩ v) b t (tl.set k v) f := by
  unfold Sta at h ⊢
  rw [store1 h]
  congr 2
  rw [List.setIfInBounds_toArray, List.set_append_right _ _ (by rw [arr_len]; omega), arr_len, Nat.add_sub_cancel_left]
theorem Sta.up {w w' : World} {b : Nat} {t : TypeId} {tl : List Value} {f : Nat → Nat} (h : Sta w b t tl f) (hb : Below w.heap.size w w') : Sta w' b t tl f := (hb.block b (lt_of_get h)).trans h
theorem Sta.but {w w' : World} {b p : Nat} {t : TypeId} {tl : List Value} {f : Nat → Nat} (h : Sta w b t tl f) (hb : But p w w') (hne : b ≠ p) : Sta w' b t tl f := (hb.block b (lt_of_get h) hne).trans h
theorem Sta.congr {w : World} {b : Nat} {t : TypeId} {tl : List Value} {f g : Nat → Nat} (h : Sta w b t tl f) (e : ∀ i, i < 25 → f i = g i) : Sta w b t tl g := by
  unfold Sta at h ⊢
  rw [h, arr_congr e]
theorem Sta.far {w : World} {b p o : Nat} {t : TypeId} {tl : List Value} {f : Nat → Nat} {v : Value} (h : Sta w b t tl f) (hne : b ≠ p) : Sta (w.setCell ⟨p, o, none⟩ v) b t tl f := store_far h hne
theorem Sta.lt {w : World} {b : Nat} {t : TypeId} {tl : List Value} {f : Nat → Nat} (h : Sta w b t tl f) : b < w.heap.size := lt_of_get h
theorem Sta.at0 {w : World} {b : Nat} {t : TypeId} {tl : List Value} {f : Nat → Nat} (h : Sta w b t tl f) : At0 w b (arr f 25) := fun j v hj => by
  have hj' : j < 25 := by have := (List.getElem?_eq_some_iff.1 hj).1; rwa [arr_len] at this
  rw [Nat.zero_add, h.cell hj']
  rw [arr_get f hj'] at hj
  exact hj
theorem Nums.sta {w : World} {b : Nat} {t : TypeId} {f : Nat → Nat} (h : Nums w b t 25 f) : Sta w b t [] f := by
  unfold Nums at h
  unfold Sta
  rw [h, List.append_nil]
theorem Sta.nums {w : World} {b : Nat} {t : TypeId} {f : Nat → Nat} (h : Sta w b t [] f) : Nums w b t 25 f := by
  unfold Sta at h
  rw [List.append_nil] at h
  exact h
theorem build_front (l old tl : List Value) (h : old.length = l.length) : List.foldl (fun (cs : Array Value) (x : Value × Nat) => cs.setIfInBounds x.2 x.1) (old ++ tl).toArray l.zipIdx = (l ++ tl).toArray := by
  obtain ⟨h1, h2⟩ := build_get l 0 (old ++ tl).toArray
  refine Array.ext_getElem? fun i => ?_
  by_cases hi : i < (old ++ tl).toArray.size
  · rw [h2 i hi]
    by_cases hl : i < l.length
    · rw [if_pos (by omega)]
      simp [List.getElem?_append_left, hl]
    · rw [if_neg (by omega)]
      simp only [List.getElem?_toArray]
      rw [List.getElem?_append_right (by omega), List.getElem?_append_right (by omega), h]
  · have hs : (l ++ tl).toArray.size = (old ++ tl).toArray.size := by simp [h]
    rw [Array.getElem?_eq_none (by omega), Array.getElem?_eq_none (by omega)]
/-- The head of a variable is written. -/
theorem list_store_front {P : Program} {ops : Array Oper} {rest : List Oper} {op : Oper} {a : Act} {w : World} {Q : Exit → Act → World → Prop} (ty : TypeId) (x y : Operand) (b : Nat) (cs old tl : List Value) (t' : TypeId)
    (hw : Region.wanted op (yielded ops a.tmps) = true) (ho : op.op = .store ty x y) (hx : a.eval x = .pointer (some ⟨b, 0, none⟩)) (hy : a.eval y = .agg cs.toArray)
    (hb : w.heap[b]? = some (.cells (old ++ tl).toArray t' (0, 0))) (hl : old.length = cs.length) (hi : (P.info? ty).map (·.size) = some cs.length) (h1 : ∀ u ∈ cs, u.oneCell' = true)
    (h : ∀ w', But b w w' → w'.heap[b]? = some (.cells (cs ++ tl).toArray t' (0, 0)) → wpList P ops Q rest (a.put op.dst undef) w') : wpList P ops Q (op :: rest) a w :=
  wpList_step fun _ hK => by
    rw [if_pos hw]
    refine wp_store_mid ty x y ho b 0 cs.toArray hx hy (fun j hj => ?_) (by simpa using hi) (by simpa using h1) (hK _ _ (h _ ((But.refl b w).setCells cs 0 w) ?_))
    · have hj' : j < old.length := by rw [hl]; simpa using hj
      simp [World.cell?, World.frozen?, hb]
      omega
    · rw [heap_setCells _ _ _ _ _ _ _ hb, build_front _ _ _ hl]
end Go.Proofs.YtpojhomccmfffaaDoor

/-
  A round, as the program goes about it, and as it is meant.
-/
namespace Go.Proofs.YtpojhomccmfffaaDoor
open Go Go.RowKit Flow
set_option linter.unusedVariables false

/-- The sums of the columns, so many numbers being looked at. -/
def sumsF (f : Nat → Nat) : Nat → Nat → Nat
  | 0 => fun _ => 0
  | k + 1 => upd (sumsF f k) (k % 5) (sumsF f k (k % 5) ^^^ f k)
def mixC (f : Nat → Nat) : Nat → Nat := fun i => f i ^^^ (sumsF f 25 ((i + 4) % 5) ^^^ rl (sumsF f 25 ((i + 1) % 5)) 1)
def turnsT : List Nat := [0, 1, 62, 28, 27, 36, 44, 6, 55, 20, 3, 10, 43, 25, 39, 41, 45, 15, 21, 8, 18, 2, 61, 56, 14]
def dest (i : Nat) : Nat := i / 5 + 5 * ((2 * (i % 5) + 3 * (i / 5)) % 5)
def movedF (f : Nat → Nat) : Nat → Nat → Nat
  | 0 => fun _ => 0
  | k + 1 => upd (movedF f k) (dest k) (rl (f k) (turnsT.getD k 0))
/-- What one has that another one hasn't. -/
def anF (a b : Nat) : Nat := a &&& (18446744073709551615 - b)
def mixR (f : Nat → Nat) : Nat → Nat := fun i => f i ^^^ anF (f (i - i % 5 + (i + 2) % 5)) (f (i - i % 5 + (i + 1) % 5))
def constsT : List Nat := [0x8000808b, 0x800000000000008b, 0x8000000000008089, 0x8000000000008003, 0x8000000000008002, 0x8000000000000080, 0x800a, 0x800000008000000a, 0x8000000080008081, 0x8000000000008080, 0x80000001, 0x8000000080008008]
def roundP (c : Nat) (f : Nat → Nat) : Nat → Nat := upd (mixR (movedF (mixC f) 25)) 0 (mixR (movedF (mixC f) 25) 0 ^^^ c)
def permP (f : Nat → Nat) : Nat → Nat → Nat
  | 0 => f
  | k + 1 => roundP (constsT.getD k 0) (permP f k)

-- as it is meant
def tr (j : Nat) : Nat := j / 5 + 5 * (j % 5)
def cR (a : Nat → Nat) (x : Nat) : Nat := a (x * 5) ^^^ a (x * 5 + 1) ^^^ a (x * 5 + 2) ^^^ a (x * 5 + 3) ^^^ a (x * 5 + 4)
def aR (a : Nat → Nat) : Nat → Nat := fun j => a j ^^^ cR a ((j / 5 + 4) % 5) ^^^ rl (cR a ((j / 5 + 1) % 5)) 1
/-- Where the way goes. -/
def way : Nat → Nat × Nat
  | 0 => (1, 0)
  | t + 1 => ((way t).2, (2 * (way t).1 + 3 * (way t).2) % 5)
def bR (a : Nat → Nat) : Nat → Nat → Nat
  | 0 => a
  | t + 1 => upd (bR a t) ((way t).1 * 5 + (way t).2) (rl (a ((way t).1 * 5 + (way t).2)) ((t + 1) * (t + 2) / 2 % 64))
def mR (b : Nat → Nat) : Nat → Nat → Nat
  | 0 => fun _ => 0
  | j + 1 => upd (mR b j) (j % 5 * 5 + (2 * (j / 5) + 3 * (j % 5)) % 5) (b j)
def oR (m : Nat → Nat) : Nat → Nat → Nat
  | 0 => fun _ => 0
  | j + 1 => upd (oR m j) (tr j) (m j ^^^ anF (m ((j / 5 + 2) % 5 * 5 + j % 5)) (m ((j / 5 + 1) % 5 * 5 + j % 5)))
def roundR (c : Nat) (f : Nat → Nat) : Nat → Nat :=
  upd (oR (mR (bR (aR (fun j => f (tr j))) 24) 25) 25) 0 (oR (mR (bR (aR (fun j => f (tr j))) 24) 25) 25 0 ^^^ c)

def Lim (f : Nat → Nat) : Prop := ∀ i, i < 25 → f i < 18446744073709551616
theorem lt25 {P : Nat → Prop} (h : P 0 ∧ P 1 ∧ P 2 ∧ P 3 ∧ P 4 ∧ P 5 ∧ P 6 ∧ P 7 ∧ P 8 ∧ P 9 ∧ P 10 ∧ P 11 ∧ P 12 ∧ P 13 ∧ P 14 ∧ P 15 ∧ P 16 ∧ P 17 ∧ P 18 ∧ P 19 ∧ P 20 ∧ P 21 ∧ P 22 ∧ P 23 ∧ P 24) : ∀ i, i < 25 → P i := by
  obtain ⟨h0, h1, h2, h3, h4, h5, h6, h7, h8, h9, h10, h11, h12, h13, h14, h15, h16, h17, h18, h19, h20, h21, h22, h23, h24⟩ := h
  intro i hi
  rcases (show i = 0 ∨ i = 1 ∨ i = 2 ∨ i = 3 ∨ i = 4 ∨ i = 5 ∨ i = 6 ∨ i = 7 ∨ i = 8 ∨ i = 9 ∨ i = 10 ∨ i = 11 ∨ i = 12 ∨ i = 13 ∨ i = 14 ∨ i = 15 ∨ i = 16 ∨ i = 17 ∨ i = 18 ∨ i = 19 ∨ i = 20 ∨ i = 21 ∨ i = 22 ∨ i = 23 ∨ i = 24 by omega) with rfl | rfl | rfl | rfl | rfl | rfl | rfl | rfl | rfl | rfl | rfl | rfl | rfl | rfl | rfl | rfl | rfl | rfl | rfl | rfl | rfl | rfl | rfl | rfl | rfl <;> assumption
theorem xor_lim {a b : Nat} (ha : a < 18446744073709551616) (hb : b < 18446744073709551616) : a ^^^ b < 18446744073709551616 := Nat.xor_lt_two_pow (n := 64) ha hb
theorem an_lim {a b : Nat} (ha : a < 18446744073709551616) : anF a b < 18446744073709551616 := Nat.lt_of_le_of_lt Nat.and_le_left ha
theorem upd_lim {f : Nat → Nat} {k v n : Nat} (h : ∀ i, i < n → f i < 18446744073709551616) (hv : v < 18446744073709551616) : ∀ i, i < n → upd f k v i < 18446744073709551616 := by
  intro i hi
  unfold upd
  split
  · exact hv
  · exact h i hi
theorem sums_lim {f : Nat → Nat} (h : Lim f) : ∀ k, k ≤ 25 → ∀ i, i < 5 → sumsF f k i < 18446744073709551616
  | 0, _, i, _ => by simp [sumsF]
  | k + 1, hk, i, hi => upd_lim (sums_lim h k (by omega)) (xor_lim (sums_lim h k (by omega) _ (by omega)) (h k (by omega))) i hi
theorem mixC_lim {f : Nat → Nat} (h : Lim f) : Lim (mixC f) := fun i hi =>
  xor_lim (h i hi) (xor_lim (sums_lim h 25 (by omega) _ (by omega)) (rl_lt _ _ (by omega) (sums_lim h 25 (by omega) _ (by omega))))
theorem turns_le (k : Nat) : turnsT.getD k 0 ≤ 62 := by
  by_cases h : k < 25
  · exact lt25 (P := fun k => turnsT.getD k 0 ≤ 62) (by decide) k h
  · have : turnsT.getD k 0 = 0 := by
      rw [List.getD_eq_getElem?_getD, List.getElem?_eq_none (by simp [turnsT]; omega)]; rfl
    omega
theorem moved_lim {f : Nat → Nat} (h : Lim f) : ∀ k, k ≤ 25 → ∀ i, i < 25 → movedF f k i < 18446744073709551616
  | 0, _, i, _ => by simp [movedF]
  | k + 1, hk, i, hi => upd_lim (moved_lim h k (by omega)) (rl_lt _ _ (by have := turns_le k; omega) (h k (by omega))) i hi
theorem mixR_lim {f : Nat → Nat} (h : Lim f) : Lim (mixR f) := fun i hi => xor_lim (h i hi) (an_lim (h _ (by omega)))
theorem consts_lim (k : Nat) : constsT.getD k 0 < 18446744073709551616 := by
  by_cases h : k < 12
  · rcases (show k = 0 ∨ k = 1 ∨ k = 2 ∨ k = 3 ∨ k = 4 ∨ k = 5 ∨ k = 6 ∨ k = 7 ∨ k = 8 ∨ k = 9 ∨ k = 10 ∨ k = 11 by omega) with rfl | rfl | rfl | rfl | rfl | rfl | rfl | rfl | rfl | rfl | rfl | rfl <;> decide
  · have : constsT.getD k 0 = 0 := by
      rw [List.getD_eq_getElem?_getD, List.getElem?_eq_none (by simp [constsT]; omega)]; rfl
    omega
theorem roundP_lim {c : Nat} {f : Nat → Nat} (hc : c < 18446744073709551616) (h : Lim f) : Lim (roundP c f) := by
  have h1 := mixR_lim (moved_lim (mixC_lim h) 25 (by omega))
  exact upd_lim h1 (xor_lim (h1 0 (by omega)) hc)
theorem permP_lim {f : Nat → Nat} (h : Lim f) : ∀ k, Lim (permP f k)
  | 0 => h
  | k + 1 => roundP_lim (consts_lim k) (permP_lim h k)

-- both are the same
theorem c_eq (f : Nat → Nat) : ∀ x, x < 5 → cR (fun j => f (tr j)) x = sumsF f 25 x := by
  intro x hx
  rcases (show x = 0 ∨ x = 1 ∨ x = 2 ∨ x = 3 ∨ x = 4 by omega) with rfl | rfl | rfl | rfl | rfl <;> simp [cR, tr, sumsF, upd]
theorem a_eq (f : Nat → Nat) (j : Nat) (hj : j < 25) : aR (fun j => f (tr j)) j = mixC f (tr j) := by
  have e1 : (tr j + 4) % 5 = (j / 5 + 4) % 5 := by unfold tr; omega
  have e2 : (tr j + 1) % 5 = (j / 5 + 1) % 5 := by unfold tr; omega
  unfold aR mixC
  rw [e1, e2, c_eq f _ (by omega), c_eq f _ (by omega), Nat.xor_assoc]
theorem upd_congr {f g : Nat → Nat} {n k v v' : Nat} (h : ∀ i, i < n → f i = g i) (hv : v = v') : ∀ i, i < n → upd f k v i = upd g k v' i := by
  intro i hi
  unfold upd
  rw [hv]
  split
  · rfl
  · exact h i hi
theorem way_lt : ∀ t, (way t).1 < 5 ∧ (way t).2 < 5
  | 0 => by decide
  | t + 1 => by have := way_lt t; exact ⟨this.2, Nat.mod_lt _ (by decide)⟩
theorem b_congr {a a' : Nat → Nat} (h : ∀ j, j < 25 → a j = a' j) : ∀ t, ∀ j, j < 25 → bR a t j = bR a' t j
  | 0 => h
  | t + 1 => upd_congr (b_congr h t) (by have := way_lt t; rw [h _ (by omega)])
theorem m_congr {a a' : Nat → Nat} (h : ∀ j, j < 25 → a j = a' j) : ∀ k, k ≤ 25 → ∀ j, j < 25 → mR a k j = mR a' k j
  | 0, _ => fun _ _ => rfl
  | k + 1, hk => upd_congr (m_congr h k (by omega)) (h k (by omega))
theorem o_congr {a a' : Nat → Nat} (h : ∀ j, j < 25 → a j = a' j) : ∀ k, k ≤ 25 → ∀ j, j < 25 → oR a k j = oR a' k j
  | 0, _ => fun _ _ => rfl
  | k + 1, hk => upd_congr (o_congr h k (by omega)) (by rw [h k (by omega), h _ (by omega), h _ (by omega)])
set_option maxRecDepth 100000 in
theorem m_eq (g : Nat → Nat) (h0 : g 0 < 18446744073709551616) : ∀ j, j < 25 → mR (bR (fun j => g (tr j)) 24) 25 j = movedF g 25 (tr j) := by
  refine lt25 ⟨?_, ?_⟩
  · show g 0 = rl (g 0) 0
    rw [rl_zero _ h0]
  · refine ⟨?_, ?_, ?_, ?_, ?_, ?_, ?_, ?_, ?_, ?_, ?_, ?_, ?_, ?_, ?_, ?_, ?_, ?_, ?_, ?_, ?_, ?_, ?_, ?_⟩ <;> kernel_rfl
set_option maxRecDepth 100000 in
theorem o_eq (m : Nat → Nat) : ∀ i, i < 25 → oR (fun j => m (tr j)) 25 i = mixR m i :=
  lt25 ⟨rfl, rfl, rfl, rfl, rfl, rfl, rfl, rfl, rfl, rfl, rfl, rfl, rfl, rfl, rfl, rfl, rfl, rfl, rfl, rfl, rfl, rfl, rfl, rfl, rfl⟩
theorem round_eq (c : Nat) (f : Nat → Nat) (h : Lim f) : ∀ i, i < 25 → roundR c f i = roundP c f i := by
  have h1 : ∀ j, j < 25 → aR (fun j => f (tr j)) j = mixC f (tr j) := a_eq f
  have h2 : ∀ j, j < 25 → mR (bR (aR (fun j => f (tr j))) 24) 25 j = movedF (mixC f) 25 (tr j) := fun j hj => by
    rw [m_congr (b_congr h1 24) 25 (by omega) j hj]
    exact m_eq (mixC f) (mixC_lim h 0 (by omega)) j hj
  have h3 : ∀ i, i < 25 → oR (mR (bR (aR (fun j => f (tr j))) 24) 25) 25 i = mixR (movedF (mixC f) 25) i := fun i hi => by
    rw [o_congr h2 25 (by omega) i hi]
    exact o_eq _ i hi
  have h4 := h3 0 (by omega)
  unfold roundR roundP
  generalize oR (mR (bR (aR (fun j => f (tr j))) 24) 25) 25 = A at h3 h4 ⊢
  generalize mixR (movedF (mixC f) 25) = B at h3 h4 ⊢
  exact upd_congr h3 (by rw [h4])
end Go.Proofs.YtpojhomccmfffaaDoor

/-
  Numbers turned; the columns mixed.
-/
namespace Go.Proofs.YtpojhomccmfffaaDoor
open Go.RowKit Flow
set_option linter.unusedVariables false
set_option linter.unusedSimpArgs false

theorem rl_bits (n k : Nat) (hk : k < 64) (hn : n < 18446744073709551616) : bits BinOp.or IntKind.u64 (IntKind.u64.wrap ((n : Int) * 2 ^ k)) ((n : Int) / 2 ^ (64 - k)) = ((rl n k : Nat) : Int) := by
  have e1 : IntKind.u64.wrap ((n : Int) * 2 ^ k) = ((n * 2 ^ k % 18446744073709551616 : Nat) : Int) := by
    rw [IntKind.wrap_u64]
    simp
  have e2 : (n : Int) / 2 ^ (64 - k) = ((n / 2 ^ (64 - k) : Nat) : Int) := by simp
  have e64 : (18446744073709551616 : Nat) = 2 ^ (64 - k) * 2 ^ k := by rw [← Nat.pow_add, Nat.sub_add_cancel (by omega)]
  have h2 : n / 2 ^ (64 - k) < 2 ^ k := by
    rw [Nat.div_lt_iff_lt_mul (Nat.pow_pos (by decide)), Nat.mul_comm, ← e64]; exact hn
  have h1 : n * 2 ^ k % 18446744073709551616 % 2 ^ k = 0 := by
    rw [e64, Nat.mul_mod_mul_right, Nat.mul_mod_left]
  have h3 : n / 2 ^ (64 - k) ≤ n := Nat.div_le_self _ _
  rw [e1, e2, u64_or_nat _ _ (Nat.mod_lt _ (by decide)) (by omega), nat_join k _ _ h1 h2]
  rfl
set_option maxHeartbeats 1000000 in
theorem rotl_any (n k : Nat) (hk : k < 64) (hn : n < 18446744073709551616) (w : World) : Calls Tryd.prog 151 #[.int .u64 (n : Int), .int .i64 (k : Int)] w fun e w' => e = .returned (.int .u64 ((rl n k : Nat) : Int)) ∧ Below w.heap.size w w' := by
  have hr := rl_bits n k hk hn
  have k0 : (0 : Int) ≤ (k : Int) := by omega
  have k1 : (k : Int) < 64 := by omega
  have ha : bits BinOp.and IntKind.u64 (k : Int) 63 = (k : Int) := by
    have h := u64_and_nat k 63 (by omega) (by decide)
    have e : k &&& 63 = k := by rw [nat_mask6]; omega
    rw [e] at h
    exact h
  replace hn := Lib.hid hn
  go_enter Tryd.func151, Tryd.ntmps151
  go_wp2
  go_ret
  exact ⟨rfl, Below.refl _ _⟩
theorem below_drewN' {B : Nat} {a w : World} (h : Below B a w) (n : Nat) : Below B a (w.drewN n) := ⟨h.os, h.tape, h.output, h.size, h.block⟩
theorem but_below' {p : Nat} {w w1 w2 : World} (h : But p w w1) (h2 : Below w1.heap.size w1 w2) : But p w w2 := h.next h2
/-- The first ones are new, the others as they were. -/
def part (g f : Nat → Nat) (k : Nat) : Nat → Nat := fun i => if i < k then g i else f i
theorem part_zero (g f : Nat → Nat) (i : Nat) : f i = part g f 0 i := by simp [part]
theorem part_at (g f : Nat → Nat) (k : Nat) : part g f k k = f k := by simp [part]
theorem part_all (g f : Nat → Nat) {k i : Nat} (h : i < k) : part g f k i = g i := by simp [part, h]
theorem part_step (g f : Nat → Nat) (k i : Nat) : upd (part g f k) k (g k) i = part g f (k + 1) i := by
  unfold upd part
  by_cases h : i = k
  · subst h; simp
  · by_cases h2 : i < k
    · rw [if_neg h, if_pos h2, if_pos (by omega)]
    · rw [if_neg h, if_neg h2, if_neg (by omega)]
theorem left_u {n L : Nat} (h : n < L) : L - (intOf (.int .i64 ((n : Int) + 1))).toNat < L - (intOf (.int .i64 (n : Int))).toNat := by
  show L - ((n : Int) + 1).toNat < L - ((n : Int)).toNat
  omega
theorem xor_nat {a b : Nat} (ha : a < 18446744073709551616) (hb : b < 18446744073709551616) : bits BinOp.xor IntKind.u64 (a : Int) (b : Int) = ((a ^^^ b : Nat) : Int) := u64_xor_nat a b ha hb
/-- A state was changed, and nothing else that was there. -/
def Turned (w : World) (b : Nat) (T : TypeId) (tl : List Value) (g : Nat → Nat) (e : Ending) (w' : World) : Prop := e = .returned (.tuple #[]) ∧ But b w w' ∧ Sta w' b T tl g
theorem tmod_nat {k m n : Nat} (h : k % n = m) : ((k : Nat) : Int).tmod (n : Int) = (m : Int) := by
  rw [Int.tmod_eq_emod_of_nonneg (by omega)]
  omega
set_option maxHeartbeats 2000000 in
theorem mixCols_ok (b : Nat) (T : TypeId) (tl : List Value) (f : Nat → Nat) (hf : Lim f) (w : World) (h : Sta w b T tl f) : Calls Tryd.prog 144 #[.pointer (some ⟨b, 0, none⟩)] w (Turned w b T tl (mixC f)) := by
  have hlb := h.lt
  have hf' := hf
  replace hf := Lib.hid hf
  replace hf' := Lib.hid hf'
  go_enter Tryd.func144, Tryd.ntmps144
  go_wp2
  have hb0 : Below w.heap.size w (w.alloc (.cells (arr (sumsF f 0) 5).toArray 207 (0, 0))) := (Below.refl _ _).alloc (Nat.le_refl _) _
  have hs0 : Nums (w.alloc (.cells (arr (sumsF f 0) 5).toArray 207 (0, 0))) w.heap.size 207 5 (sumsF f 0) := alloc_at rfl
  go_loopw [7] (fun i wr => ∃ k : Nat, k ≤ 25 ∧ i = .int .i64 (k : Int) ∧ Below w.heap.size w wr ∧ Nums wr w.heap.size 207 5 (sumsF f k)) (fun i _ => 25 - (intOf i).toNat)
  case atStart => exact ⟨0, by omega, rfl, hb0, hs0⟩
  case round =>
    clear hb0 hs0
    obtain ⟨k, hk, rfl, hb, hs⟩ := hrel
    by_cases hlt : k < 25
    · have k0 : (0 : Int) ≤ (k : Int) := by omega
      have k1 : (k : Int) < 25 := by omega
      have hm5 : k % 5 < 5 := by omega
      have c0 := (h.up hb).cell hlt
      have hx := xor_nat (sums_lim hf.out k hk (k % 5) hm5) (hf.out k hlt)
      have hsu : upd (sumsF f k) (k % 5) (sumsF f k (k % 5) ^^^ f k) = sumsF f (k + 1) := rfl
      replace hsu := Lib.hid hsu
      go_wp2
      go_quiet (fail)
      replace hb := below_drewN' hb nq
      have hs' : Nums (wr.drewN nq) w.heap.size 207 5 (sumsF f k) := hs
      replace hs := hs'
      have d0 := hs.cell hm5
      have d1 : (wr.drewN nq).frozen? ⟨w.heap.size, k % 5, none⟩ = false := hs.free
      have hst := hs.set (k := k % 5) (sumsF f k (k % 5) ^^^ f k)
      rw [hsu.out] at hst
      replace hst := Lib.hid hst
      go_wp2
      exact ⟨⟨k + 1, by omega, by go_num, hb.setCell (p := ⟨w.heap.size, k % 5, none⟩) (Nat.le_refl _) _, hst.out⟩, left_u (by assumption)⟩
    · obtain rfl : k = 25 := by omega
      have hS := sums_lim hf.out 25 (Nat.le_refl _)
      replace hS := Lib.hid hS
      go_wp2
      go_loopw [21] (fun i wr => ∃ k : Nat, k ≤ 25 ∧ i = .int .i64 (k : Int) ∧ But b w wr ∧ Nums wr w.heap.size 207 5 (sumsF f 25) ∧ Sta wr b T tl (part (mixC f) f k)) (fun i _ => 25 - (intOf i).toNat)
      case atStart => exact ⟨0, by omega, rfl, But.of_below hb, hs, (h.up hb).congr fun i _ => part_zero _ _ i⟩
      case round =>
        clear hb hs
        obtain ⟨k, hk, rfl, hb, hs, hn⟩ := hrel
        by_cases hlt : k < 25
        · obtain ⟨a4, ha4⟩ : ∃ m, k + 4 = m := ⟨_, rfl⟩
          obtain ⟨a1, ha1⟩ : ∃ m, k + 1 = m := ⟨_, rfl⟩
          have l4 : a4 % 5 < 5 := by omega
          have l1 : a1 % 5 < 5 := by omega
          have z4 : IntKind.i64.wrap ((k : Int) + 4) = (a4 : Int) := by simp only [IntKind.wrap_i64]; omega
          have z1 : IntKind.i64.wrap ((k : Int) + 1) = (a1 : Int) := by simp only [IntKind.wrap_i64]; omega
          have k0 : (0 : Int) ≤ (k : Int) := by omega
          have k1 : (k : Int) < 25 := by omega
          have c0 := hn.cell hlt
          rw [part_at] at c0
          have d4 := hs.cell l4
          have d1 := hs.cell l1
          have hx1 := xor_nat (hS.out _ l4) (rl_lt _ 1 (by decide) (hS.out _ l1))
          have hx2 := xor_nat (hf.out k hlt) (xor_lim (hS.out _ l4) (rl_lt _ 1 (by decide) (hS.out _ l1)))
          have hv : f k ^^^ (sumsF f 25 (a4 % 5) ^^^ rl (sumsF f 25 (a1 % 5)) 1) = mixC f k := by
            unfold mixC
            rw [← ha4, ← ha1]
          rw [hv] at hx2
          have hrot : ∀ w, Calls Tryd.prog 151 #[.int .u64 ((sumsF f 25 (a1 % 5) : Nat) : Int), .int .i64 1] w fun e w' => e = .returned (.int .u64 ((rl (sumsF f 25 (a1 % 5)) 1 : Nat) : Int)) ∧ Below w.heap.size w w' := fun w => rotl_any (sumsF f 25 (a1 % 5)) 1 (by decide) (hS.out _ l1) w
          have hps : upd (part (mixC f) f k) k (mixC f k) = part (mixC f) f (k + 1) := funext fun i => part_step _ _ _ _
          replace hrot := Lib.hid hrot
          replace hv := Lib.hid hv
          replace ha4 := Lib.hid ha4
          replace ha1 := Lib.hid ha1
          replace hps := Lib.hid hps
          generalize sumsF f 25 (a4 % 5) = S4 at *
          generalize rl (sumsF f 25 (a1 % 5)) 1 = R1 at *
          generalize sumsF f 25 (a1 % 5) = S1 at *
          obtain ⟨X, hX⟩ : ∃ X, mixC f k = X := ⟨_, rfl⟩
          rw [hX] at hx2
          replace hX := Lib.hid hX
          go_wp2
          refine wp_region_flow1 20 (by kernel_rfl) (by kernel_rfl) (by kernel_rfl) ?_
          apply Exists.intro
          refine ⟨fun ι _ φ hφ => ?_, fun wt hwt => ?_⟩
          · have b0 := hφ.cell c0
            have b4 := hφ.cell d4
            have b1 := hφ.cell d1
            simp only [List.take_succ_cons, List.take_zero]
            repeat (go_big_quiet_step ((go_at_call 151; exact flow_call hφ (hrot.out _))))
            exact wpQuiet_nil rfl
          replace hb := but_below' hb hwt
          replace hs := hs.up hwt
          replace hn := hn.up hwt
          have d1' : wt.frozen? ⟨b, k, none⟩ = false := hn.free
          have c1' := hn.cell hlt
          have hst := hn.set (k := k) hlt X
          rw [← hX.out, hps.out, hX.out] at hst
          clear hwt z1 z4
          simp only [List.drop_succ_cons, List.drop_zero]
          go_wp2
          exact ⟨⟨k + 1, by omega, by go_num, hb.set _, hs.far (by omega), hst⟩, left_u (by assumption)⟩
        · obtain rfl : k = 25 := by omega
          go_wp2
          go_end0
          exact ⟨rfl, hb, hn.congr fun i hi => part_all _ _ hi⟩
end Go.Proofs.YtpojhomccmfffaaDoor

/-
  The tables that the program lists.
-/
namespace Go.Proofs.YtpojhomccmfffaaDoor
open Go.RowKit Flow
set_option linter.unusedVariables false
set_option linter.unusedSimpArgs false

theorem table_of {H : Type} {enc : TypeId × Value → H} {P : Program} {w : World} {sp : Nat → Bool} {held : Bool} {nm : String} {g : Nat} {t e : TypeId} {k : IntKind} {n : Nat} (ht : P.underlying t = some (.array n e)) (he : P.underlying e = some (.int k)) (hce : P.cellsOf e = 1)
    {cs : Array Value} {fuel : Nat} {zs : List Int} {p : List MemPlace} (hg : P.globalNamed nm = some g) (hv : w.var? P nm = some cs)
    (hd : DataW.trod enc P w 0 sp held fuel t cs.toList = some (.agg (zs.map fun z => .lit (.int k z)), p)) : ∀ i z, zs[i]? = some z → w.cell? ⟨g, i, none⟩ = some (.int k z) := by
  intro i z hz
  obtain ⟨xs, m1, _, hx1, hlen, hn3, hel⟩ := DataW.trod_array ht hd
  simp only [Prod.mk.injEq, DataW.agg.injEq] at hx1
  have hil : i < zs.length := (List.getElem?_eq_some_iff.1 hz).1
  have hxl : xs.length = zs.length := by have := congrArg List.length hx1.1; simpa using this.symm
  have hi : i < n := by omega
  have h0 := hel i hi
  rw [List.getElem?_eq_getElem (show i < xs.length by omega)] at h0
  obtain ⟨a, e1, e2, _⟩ := DataW.trod_int he h0
  have hfst : (xs[i]).1 = .lit (.int k z) := by
    have := congrArg (fun l => l[i]?) hx1.1
    simp only [List.getElem?_map, hz, Option.map_some] at this
    rw [List.getElem?_eq_getElem (show i < xs.length by omega)] at this
    simpa using this.symm
  rw [e2] at hfst
  have ha : a = z := by simpa using hfst
  subst ha
  have := World.var?_cell hg hv i
  rw [this]
  rw [hce, Nat.mul_one] at e1
  have h2 := congrArg (fun l => l[0]?) e1
  simp [List.getElem?_take, List.getElem?_drop] at h2
  simpa using h2
/-- The tables, as they lie. -/
structure Tabs (w : World) : Prop where
  tn : ∀ i, i < 25 → w.cell? ⟨1, i, none⟩ = some (.int .i64 ((turnsT.getD i 0 : Nat) : Int))
  cn : ∀ i, i < 12 → w.cell? ⟨0, i, none⟩ = some (.int .u64 ((constsT.getD i 0 : Nat) : Int))
theorem Tabs.up {w w' : World} (h : Tabs w) (hb : Below w.heap.size w w') : Tabs w' :=
  ⟨fun i hi => (hb.cell (World.block_lt_of_cell? _ _ (h.tn i hi))).trans (h.tn i hi), fun i hi => (hb.cell (World.block_lt_of_cell? _ _ (h.cn i hi))).trans (h.cn i hi)⟩
theorem Tabs.but {w w' : World} {b : Nat} (h : Tabs w) (hb : But b w w') (h1 : 1 < b) : Tabs w' := by
  refine ⟨fun i hi => ?_, fun i hi => ?_⟩
  · have q := h.tn i hi
    rw [World.cell?_of_block (w := w) (a := ⟨1, i, none⟩) (hb.block 1 (World.block_lt_of_cell? _ _ q) (by omega))]
    exact q
  · have q := h.cn i hi
    rw [World.cell?_of_block (w := w) (a := ⟨0, i, none⟩) (hb.block 0 (World.block_lt_of_cell? _ _ q) (by omega))]
    exact q
theorem gTurns : Tryd.prog.globalNamed "tallyman/keccak.turns" = some 1 := by kernel_rfl
theorem gConsts : Tryd.prog.globalNamed "tallyman/keccak.constants" = some 0 := by kernel_rfl
theorem tTurns : (Tryd.prog.globals[1]?).map (·.type) = some 209 := by kernel_rfl
theorem tConsts : (Tryd.prog.globals[0]?).map (·.type) = some 200 := by kernel_rfl
theorem tabs_of {W : World} (h : laidMetH Tryd.prog [("tallyman/keccak.turns", Rows.laid_tallyman_keccak_turns), ("tallyman/keccak.constants", Rows.laid_tallyman_keccak_constants)] W) : Tabs W := by
  rw [MakeChecks.laidMetH_plain _ _ _ (by kernel_rfl)] at h
  obtain ⟨ps, ⟨g0, t0, cs0, f0, p0, q0, hg0, ht0, hv0, hd0, ⟨g1, t1, cs1, f1, p1, q1, hg1, ht1, hv1, hd1, _, _⟩, _⟩, _, _⟩ := h
  obtain rfl := Option.some.inj (gTurns.symm.trans hg0)
  obtain rfl := Option.some.inj (gConsts.symm.trans hg1)
  obtain rfl := Option.some.inj (tTurns.symm.trans ht0)
  obtain rfl := Option.some.inj (tConsts.symm.trans ht1)
  have h0 := table_of (zs := turnsT.map fun n => ((n : Nat) : Int)) Tryd.underlying209 Tryd.underlying3 (by kernel_rfl) hg0 hv0 hd0
  have h1 := table_of (zs := constsT.map fun n => ((n : Nat) : Int)) Tryd.underlying200 Tryd.underlying63 (by kernel_rfl) hg1 hv1 hd1
  refine ⟨fun i hi => h0 i _ ?_, fun i hi => h1 i _ ?_⟩
  · have hl : i < turnsT.length := hi
    rw [List.getElem?_map, List.getElem?_eq_getElem hl, List.getD_eq_getElem?_getD, List.getElem?_eq_getElem hl]
    rfl
  · have hl : i < constsT.length := hi
    rw [List.getElem?_map, List.getElem?_eq_getElem hl, List.getD_eq_getElem?_getD, List.getElem?_eq_getElem hl]
    rfl
end Go.Proofs.YtpojhomccmfffaaDoor

/-
  Numbers turned and moved; the rows mixed; all rounds.
-/
namespace Go.Proofs.YtpojhomccmfffaaDoor
open Go.RowKit Flow
set_option linter.unusedVariables false
set_option linter.unusedSimpArgs false

theorem cells25 (f : Nat → Nat) : (arr f 25).length = 25 := arr_len f 25
set_option maxHeartbeats 4000000 in
theorem turnMove_ok (b : Nat) (T : TypeId) (tl : List Value) (f : Nat → Nat) (hf : Lim f) (w : World) (h : Sta w b T tl f) (hT : Tabs w) : Calls Tryd.prog 145 #[.pointer (some ⟨b, 0, none⟩)] w (Turned w b T tl (movedF f 25)) := by
  have hlb := h.lt
  replace hf := Lib.hid hf
  replace hT := Lib.hid hT
  go_enter Tryd.func145, Tryd.ntmps145
  go_wp2
  have hb0 : Below w.heap.size w (w.alloc (.cells (arr (movedF f 0) 25).toArray 182 (0, 0))) := (Below.refl _ _).alloc (Nat.le_refl _) _
  have hs0 : Nums (w.alloc (.cells (arr (movedF f 0) 25).toArray 182 (0, 0))) w.heap.size 182 25 (movedF f 0) := alloc_at rfl
  go_loopw [8] (fun i wr => ∃ k : Nat, k ≤ 25 ∧ i = .int .i64 (k : Int) ∧ Below w.heap.size w wr ∧ Nums wr w.heap.size 182 25 (movedF f k)) (fun i _ => 25 - (intOf i).toNat)
  case atStart => exact ⟨0, by omega, rfl, hb0, hs0⟩
  case round =>
    clear hb0 hs0
    obtain ⟨k, hk, rfl, hb, hs⟩ := hrel
    by_cases hlt : k < 25
    · have k0 : (0 : Int) ≤ (k : Int) := by omega
      have k1 : (k : Int) < 25 := by omega
      have c0 := (h.up hb).cell hlt
      obtain ⟨x, hx⟩ : ∃ x, k % 5 = x := ⟨_, rfl⟩
      obtain ⟨y, hy⟩ : ∃ y, k / 5 = y := ⟨_, rfl⟩
      obtain ⟨z, hz⟩ : ∃ z, (2 * x + 3 * y) % 5 = z := ⟨_, rfl⟩
      obtain ⟨D, hD⟩ : ∃ D, y + 5 * z = D := ⟨_, rfl⟩
      have hd : dest k = D := by unfold dest; rw [hx, hy, hz, hD]
      have hd25 : D < 25 := by omega
      have hmv : upd (movedF f k) (dest k) (rl (f k) (turnsT.getD k 0)) = movedF f (k + 1) := rfl
      rw [hd] at hmv
      have ex : (k : Int) % 5 = (x : Int) := by omega
      have ey : (k : Int) / 5 = (y : Int) := by omega
      have ez : (2 * (x : Int) + 3 * (y : Int)) % 5 = (z : Int) := by omega
      have ed : (y : Int) + 5 * (z : Int) = (D : Int) := by omega
      have D0 : (0 : Int) ≤ (D : Int) := by omega
      have D1 : (D : Int) < 25 := by omega
      replace hD := Lib.hid hD
      have x0 : (0 : Int) ≤ (x : Int) := by omega
      have x1 : (x : Int) < 5 := by omega
      have y0 : (0 : Int) ≤ (y : Int) := by omega
      have y1 : (y : Int) < 5 := by omega
      have z0 : (0 : Int) ≤ (z : Int) := by omega
      have z1 : (z : Int) < 5 := by omega
      have htk := turns_le k
      replace ex := Lib.hid ex
      replace ey := Lib.hid ey
      replace ez := Lib.hid ez
      replace ed := Lib.hid ed
      replace hmv := Lib.hid hmv
      replace hx := Lib.hid hx
      replace hy := Lib.hid hy
      replace hz := Lib.hid hz
      replace hd := Lib.hid hd
      go_wp2
      go_quiet (fail)
      replace hb := below_drewN' hb nq
      have hs' : Nums (wr.drewN nq) w.heap.size 182 25 (movedF f k) := hs
      replace hs := hs'
      clear c0
      generalize wr.drewN nq = wq at *
      have htq := (hT.out.up hb).tn k hlt
      have hrot := Lib.hid (rotl_any (f k) (turnsT.getD k 0) (by omega) (hf.out k hlt))
      go_upto_region 5 with (fail)
      rw [ex.out, ey.out]
      replace ez := ez.out
      replace ed := ed.out
      go_wp2_with fail
      refine call_then (hrot.out _) ?_
      intro wt hwt
      replace hb := below_next hb hb.size hwt
      replace hs := hs.up hwt
      have d0 := hs.cell hd25
      have d1 : wt.frozen? ⟨w.heap.size, D, none⟩ = false := hs.free
      have hst := hs.set (k := D) (rl (f k) (turnsT.getD k 0))
      rw [hmv.out] at hst
      clear hwt htq hrot
      go_wp2
      exact ⟨⟨k + 1, by omega, by go_num, hb.setCell (p := ⟨w.heap.size, D, none⟩) (Nat.le_refl _) _, hst⟩, left_u (by assumption)⟩
    · obtain rfl : k = 25 := by omega
      have hsa := hs.at0
      have hnb := h.up hb
      have hone := arr_one (movedF f 25) 25
      have hl := cells25 (movedF f 25)
      have hl2 := cells25 f
      unfold Sta at hnb
      go_wp2_with (first
        | (refine list_load_mid _ _ _ 0 _ _ rfl rfl rfl hsa Tryd.underlying182 rfl (by rw [hl]; kernel_rfl) ?_)
        | (refine list_store_front _ _ _ _ (arr (movedF f 25) 25) (arr f 25) tl T rfl rfl rfl rfl hnb (by rw [hl, hl2]) (by rw [hl]; kernel_rfl) hone ?_; intro w3 hbut kz))
      go_end0
      refine ⟨rfl, ?_, kz⟩
      exact ⟨hbut.os.trans hb.os, hbut.tape.trans hb.tape, hbut.output.trans hb.output, Nat.le_trans hb.size hbut.size, fun q hq hne => (hbut.block q (Nat.lt_of_lt_of_le hq hb.size) hne).trans (hb.block q hq)⟩
end Go.Proofs.YtpojhomccmfffaaDoor

/-
  The rows mixed; all rounds.
-/
namespace Go.Proofs.YtpojhomccmfffaaDoor
open Go.RowKit Flow
set_option linter.unusedVariables false
set_option linter.unusedSimpArgs false

theorem an_nat {a b : Nat} (ha : a < 18446744073709551616) (hb : b < 18446744073709551616) : bits BinOp.andNot IntKind.u64 (a : Int) (b : Int) = ((anF a b : Nat) : Int) := u64_andNot_nat a b ha hb
theorem Turned.next {w w1 w2 : World} {b : Nat} (h1 : But b w w1) (h2 : But b w1 w2) : But b w w2 :=
  ⟨h2.os.trans h1.os, h2.tape.trans h1.tape, h2.output.trans h1.output, Nat.le_trans h1.size h2.size, fun q hq hne => (h2.block q (Nat.lt_of_lt_of_le hq h1.size) hne).trans (h1.block q hq hne)⟩
set_option maxHeartbeats 4000000 in
theorem mixRows_ok (b : Nat) (T : TypeId) (tl : List Value) (f : Nat → Nat) (hf : Lim f) (w : World) (h : Sta w b T tl f) : Calls Tryd.prog 146 #[.pointer (some ⟨b, 0, none⟩)] w (Turned w b T tl (mixR f)) := by
  have hlb := h.lt
  have hsa := h.at0
  have hone := arr_one f 25
  have hl := cells25 f
  replace hf := Lib.hid hf
  replace hone := Lib.hid hone
  replace hl := Lib.hid hl
  go_enter Tryd.func146, Tryd.ntmps146
  go_wp2_with (first
    | (refine list_load_mid _ _ _ 0 _ _ rfl rfl rfl hsa Tryd.underlying182 rfl (by rw [hl.out]; kernel_rfl) ?_)
    | (refine list_store_whole _ _ _ _ (arr f 25) (arr (fun _ => 0) 25) 182 rfl rfl rfl rfl (alloc_at rfl) (by rw [hl.out]; exact (arr_len _ _).symm ▸ rfl) (by rw [hl.out]; kernel_rfl) hone.out ?_; intro w3 hbut kz))
  have hb0 : Below w.heap.size w w3 := hbut.below ((Below.refl _ _).alloc (Nat.le_refl _) _) (Nat.le_refl _) (by simp)
  have ho0 : Nums w3 w.heap.size 182 25 f := kz
  clear hbut kz hsa
  go_loopw [8] (fun i wr => ∃ k : Nat, k ≤ 25 ∧ i = .int .i64 (k : Int) ∧ But b w wr ∧ Nums wr w.heap.size 182 25 f ∧ Sta wr b T tl (part (mixR f) f k)) (fun i _ => 25 - (intOf i).toNat)
  case atStart => exact ⟨0, by omega, rfl, But.of_below hb0, ho0, (h.up hb0).congr fun i _ => part_zero _ _ i⟩
  case round =>
    clear hb0 ho0
    obtain ⟨k, hk, rfl, hb, ho, hn⟩ := hrel
    by_cases hlt : k < 25
    · have k0 : (0 : Int) ≤ (k : Int) := by omega
      have k1 : (k : Int) < 25 := by omega
      obtain ⟨r, hr⟩ : ∃ r, k - k % 5 = r := ⟨_, rfl⟩
      obtain ⟨a2, ha2⟩ : ∃ m, k + 2 = m := ⟨_, rfl⟩
      obtain ⟨a1, ha1⟩ : ∃ m, k + 1 = m := ⟨_, rfl⟩
      obtain ⟨D2, hD2⟩ : ∃ m, r + a2 % 5 = m := ⟨_, rfl⟩
      obtain ⟨D1, hD1⟩ : ∃ m, r + a1 % 5 = m := ⟨_, rfl⟩
      have l2 : D2 < 25 := by omega
      have l1 : D1 < 25 := by omega
      have er : (k : Int) - (k : Int) % 5 = (r : Int) := by omega
      have z2 : IntKind.i64.wrap ((k : Int) + 2) = (a2 : Int) := by simp only [IntKind.wrap_i64]; omega
      have z1 : IntKind.i64.wrap ((k : Int) + 1) = (a1 : Int) := by simp only [IntKind.wrap_i64]; omega
      have y2 : IntKind.i64.wrap ((r : Int) + (a2 : Int) % 5) = (D2 : Int) := by simp only [IntKind.wrap_i64]; omega
      have y1 : IntKind.i64.wrap ((r : Int) + (a1 : Int) % 5) = (D1 : Int) := by simp only [IntKind.wrap_i64]; omega
      have p2 : (0 : Int) ≤ (D2 : Int) := by omega
      have p1 : (0 : Int) ≤ (D1 : Int) := by omega
      have q2 : (D2 : Int) < 25 := by omega
      have q1 : (D1 : Int) < 25 := by omega
      have s2 : (0 : Int) ≤ (a2 : Int) := by omega
      have s1 : (0 : Int) ≤ (a1 : Int) := by omega
      have c0 := hn.cell hlt
      rw [part_at] at c0
      have d2 := ho.cell l2
      have d1 := ho.cell l1
      have hx1 := an_nat (hf.out D2 l2) (hf.out D1 l1)
      have hx2 := xor_nat (hf.out k hlt) (an_lim (b := f D1) (hf.out D2 l2))
      have hv : f k ^^^ anF (f D2) (f D1) = mixR f k := by
        unfold mixR
        rw [ha2, ha1, hr, hD2, hD1]
      rw [hv] at hx2
      have hps : upd (part (mixR f) f k) k (mixR f k) = part (mixR f) f (k + 1) := funext fun i => part_step _ _ _ _
      replace hv := Lib.hid hv
      replace hr := Lib.hid hr
      replace ha2 := Lib.hid ha2
      replace ha1 := Lib.hid ha1
      replace hD2 := Lib.hid hD2
      replace hD1 := Lib.hid hD1
      replace hps := Lib.hid hps
      replace er := Lib.hid er
      generalize f D2 = F2 at *
      generalize f D1 = F1 at *
      generalize anF F2 F1 = R1 at *
      obtain ⟨X, hX⟩ : ∃ X, mixR f k = X := ⟨_, rfl⟩
      rw [hX] at hx2
      replace hX := Lib.hid hX
      replace z1 := Lib.hid z1
      replace z2 := Lib.hid z2
      go_upto_region 5 with (fail)
      rw [er.out]
      replace z1 := z1.out
      replace z2 := z2.out
      refine wp_region_flow1 23 (by kernel_rfl) (by kernel_rfl) (by kernel_rfl) ?_
      apply Exists.intro
      refine ⟨fun ι _ φ hφ => ?_, fun wt hwt => ?_⟩
      · have b0 := hφ.cell c0
        have b2 := hφ.cell d2
        have b1 := hφ.cell d1
        simp only [List.take_succ_cons, List.take_zero]
        repeat (go_big_quiet_step (fail))
        exact wpQuiet_nil rfl
      replace hb := but_below' hb hwt
      replace ho := ho.up hwt
      replace hn := hn.up hwt
      have d1' : wt.frozen? ⟨b, k, none⟩ = false := hn.free
      have c1' := hn.cell hlt
      have hst := hn.set (k := k) hlt X
      rw [← hX.out, hps.out, hX.out] at hst
      clear hwt z1 z2 y1 y2
      simp only [List.drop_succ_cons, List.drop_zero]
      go_wp2
      exact ⟨⟨k + 1, by omega, by go_num, hb.set _, ho.far (by omega), hst⟩, left_u (by assumption)⟩
    · obtain rfl : k = 25 := by omega
      go_wp2
      go_end0
      exact ⟨rfl, hb, hn.congr fun i hi => part_all _ _ hi⟩
set_option maxHeartbeats 4000000 in
theorem permute_ok (b : Nat) (hb1 : 1 < b) (T : TypeId) (tl : List Value) (f : Nat → Nat) (hf : Lim f) (w : World) (h : Sta w b T tl f) (hT : Tabs w) : Calls Tryd.prog 137 #[.pointer (some ⟨b, 0, none⟩)] w (Turned w b T tl (permP f 12)) := by
  replace hf := Lib.hid hf
  replace hT := Lib.hid hT
  go_enter Tryd.func137, Tryd.ntmps137
  go_wp2
  go_loopw [5] (fun i wr => ∃ k : Nat, k ≤ 12 ∧ i = .int .i64 (k : Int) ∧ But b w wr ∧ Sta wr b T tl (permP f k)) (fun i _ => 12 - (intOf i).toNat)
  case atStart => exact ⟨0, by omega, rfl, But.refl _ _, h⟩
  case round =>
    clear h
    obtain ⟨k, hk, rfl, hb, hn⟩ := hrel
    by_cases hlt : k < 12
    · have k0 : (0 : Int) ≤ (k : Int) := by omega
      have k1 : (k : Int) < 12 := by omega
      have hL := permP_lim hf.out k
      have hstep : permP f (k + 1) = roundP (constsT.getD k 0) (permP f k) := rfl
      have hcl := consts_lim k
      have hTr := hT.out.but hb hb1
      generalize permP f k = g at *
      obtain ⟨C0, hC0⟩ : ∃ C0, constsT.getD k 0 = C0 := ⟨_, rfl⟩
      have hL1 := mixC_lim hL
      have hL2 : Lim (movedF (mixC g) 25) := moved_lim hL1 25 (Nat.le_refl _)
      have hL3 := mixR_lim hL2
      have hA := Lib.hid (mixCols_ok b T tl g hL wr hn)
      replace hstep := Lib.hid hstep
      replace hTr := Lib.hid hTr
      replace hL1 := Lib.hid hL1
      replace hL2 := Lib.hid hL2
      replace hL3 := Lib.hid hL3
      replace hC0 := Lib.hid hC0
      replace hcl := Lib.hid hcl
      clear hL hn
      go_wp2_with fail
      refine hA.out.mono ?_
      rintro e w1 ⟨rfl, hb1', hn1⟩
      have hB := Lib.hid (turnMove_ok b T tl (mixC g) hL1.out w1 hn1 (hTr.out.but hb1' hb1))
      clear hA hn1
      go_wp2_with fail
      refine hB.out.mono ?_
      rintro e w2 ⟨rfl, hb2', hn2⟩
      have hC := Lib.hid (mixRows_ok b T tl (movedF (mixC g) 25) hL2.out w2 hn2)
      clear hB hn2
      go_wp2_with fail
      refine hC.out.mono ?_
      rintro e w3 ⟨rfl, hb3', hn3⟩
      clear hC
      have hb03 := Turned.next (Turned.next hb1' hb2') hb3'
      have hT3 := (hTr.out.but hb03 hb1).cn k hlt
      rw [hC0.out] at hT3
      replace hb := Turned.next hb hb03
      have hx := xor_nat (hL3.out 0 (by decide)) (show C0 < 18446744073709551616 by rw [← hC0.out]; exact hcl.out)
      have c0 := hn3.cell (show 0 < 25 by decide)
      have hfin : upd (mixR (movedF (mixC g) 25)) 0 (mixR (movedF (mixC g) 25) 0 ^^^ C0) = permP f (k + 1) := by
        rw [hstep.out, hC0.out]; rfl
      clear hb1' hb2' hb3' hb03
      replace hfin := Lib.hid hfin
      generalize mixR (movedF (mixC g) 25) = G at *
      obtain ⟨X, hX⟩ : ∃ X, G 0 ^^^ C0 = X := ⟨_, rfl⟩
      rw [hX] at hx
      replace hX := Lib.hid hX
      go_upto_region 7 with (fail)
      refine wp_region_flow1 10 (by kernel_rfl) (by kernel_rfl) (by kernel_rfl) ?_
      apply Exists.intro
      refine ⟨fun ι _ φ hφ => ?_, fun wt hwt => ?_⟩
      · have b0 := hφ.cell c0
        have b1 := hφ.cell hT3
        simp only [List.take_succ_cons, List.take_zero]
        repeat (go_big_quiet_step (fail))
        exact wpQuiet_nil rfl
      replace hb := but_below' hb hwt
      replace hn3 := hn3.up hwt
      have d1' : wt.frozen? ⟨b, 0, none⟩ = false := hn3.free
      have c1' := hn3.cell (show 0 < 25 by decide)
      have hst := hn3.set (k := 0) (by decide) X
      rw [← hX.out, hfin.out, hX.out] at hst
      clear hwt hT3 c0
      simp only [List.drop_succ_cons, List.drop_zero]
      go_wp2
      exact ⟨⟨k + 1, by omega, by go_num, hb.set _, hst⟩, left_u (by assumption)⟩
    · obtain rfl : k = 12 := by omega
      go_wp2
      go_end0
      exact ⟨rfl, hb, hn⟩
end Go.Proofs.YtpojhomccmfffaaDoor

/-
  The reference's small functions: turns, a shift register, powers, a round's constant.
-/
namespace Go.Proofs.YtpojhomccmfffaaDoor
open Go.RowKit Flow
set_option linter.unusedVariables false
set_option linter.unusedSimpArgs false

theorem rot_lt (n : Nat) (hn : n < 18446744073709551616) : ∀ k, rot n k < 18446744073709551616
  | 0 => hn
  | k + 1 => Nat.mod_lt _ (by decide)
/-- The shift register. -/
def sh : Nat → Nat
  | 0 => 1
  | k + 1 => if 256 ≤ sh k * 2 then (sh k * 2) ^^^ 369 else sh k * 2
theorem xor369 : ∀ r, r < 512 → 256 ≤ r → r ^^^ 369 < 256 := by decide +kernel
theorem xor369i : ∀ r, r < 512 → bits BinOp.xor IntKind.i64 ((r : Nat) : Int) 369 = ((r ^^^ 369 : Nat) : Int) := by decide +kernel
theorem sh_lt : ∀ k, sh k < 256
  | 0 => by decide
  | k + 1 => by
    have := sh_lt k
    unfold sh
    split
    · exact xor369 _ (by omega) (by assumption)
    · omega
end Go.Proofs.YtpojhomccmfffaaDoor

/-
  A round's constant, as it comes about.
-/
namespace Go.Proofs.YtpojhomccmfffaaDoor
open Go.RowKit Flow
set_option linter.unusedVariables false
set_option linter.unusedSimpArgs false

def csF (r : Nat) : Nat → Nat
  | 0 => 0
  | j + 1 => (csF r j + sh ((j + 7 * r) % 255) % 2 * 2 ^ (2 ^ j - 1) % 18446744073709551616) % 18446744073709551616
theorem cs_eq : ∀ k, k < 12 → csF (12 + k) 7 = constsT.getD k 0 := by decide +kernel
end Go.Proofs.YtpojhomccmfffaaDoor
