/-
  Two shares' sums, cut anyhow: mathematics.
-/
import Derived.Test.YtpojhomccmfffaaDoorTuA
import Derived.Test.YtpojhomccmfffaaDoorDL
import Derived.Test.YtpojhomccmfffaaDoorCnA
namespace Go.Proofs.YtpojhomccmfffaaDoor
open Go.RowKit Flow F
set_option linter.unusedVariables false
set_option linter.unusedSimpArgs false

theorem add_in {f : Int} (hf : f = 1 ∨ f = 2) (a b : Int) : 0 ≤ add f a b ∧ add f a b < M f := by
  rcases hf with rfl | rfl <;> (unfold add M; simp; omega)
theorem sub_in {f : Int} (hf : f = 1 ∨ f = 2) (a b : Int) : 0 ≤ sub f a b ∧ sub f a b < M f := by
  rcases hf with rfl | rfl <;> (unfold sub M; simp; omega)
theorem cut_step {f : Int} (hf : f = 1 ∨ f = 2) {a b o v W : Int} (a0 : 0 ≤ a) (a1 : a < M f) (b0 : 0 ≤ b) (b1 : b < M f) (o0 : 0 ≤ o) (o1 : o < M f) (v0 : 0 ≤ v) (v1 : v < M f) (h : add f a b = W) (hW : W + v < M f) :
    add f (add f a o) (add f b (sub f v o)) = W + v := by
  have g1 := add_in hf a o
  have g2 := sub_in hf v o
  have g3 := add_in hf b (sub f v o)
  have e1 : add f a o = (a + o) % M f := by unfold add; rw [redu_in a0 a1, redu_in o0 o1]
  have e2 : sub f v o = (v - o) % M f := by unfold sub; rw [redu_in v0 v1, redu_in o0 o1]
  have e3 : add f b (sub f v o) = (b + sub f v o) % M f := by
    rw [show add f b (sub f v o) = (redu f b + redu f (sub f v o)) % M f from rfl, redu_in b0 b1, redu_in g2.1 g2.2]
  have e4 : add f (add f a o) (add f b (sub f v o)) = (add f a o + add f b (sub f v o)) % M f := by
    rw [show add f (add f a o) (add f b (sub f v o)) = (redu f (add f a o) + redu f (add f b (sub f v o))) % M f from rfl, redu_in g1.1 g1.2, redu_in g3.1 g3.2]
  have e5 : W = (a + b) % M f := by rw [← h]; unfold add; rw [redu_in a0 a1, redu_in b0 b1]
  rw [e4]
  generalize add f b (sub f v o) = z3 at *
  generalize sub f v o = z2 at *
  generalize add f a o = z1 at *
  generalize add f a b = z5 at *
  rcases hf with rfl | rfl
  · unfold M at *
    simp at *
    omega
  · unfold M at *
    simp at *
    omega
/-- All of a list is an element of the field. -/
theorem outL_in {f : Int} (hf : f = 1 ∨ f = 2) (N : Nat) (ys : List Int) : InF f (outL f N ys) := fun z hz => by
  unfold outL at hz
  obtain ⟨i, _, rfl⟩ := List.mem_map.1 hz
  unfold outE
  split
  · rcases hf with rfl | rfl <;> (unfold M; simp)
  · exact ⟨redu_nonneg f _, redu_lt f _⟩
theorem zip_in {f : Int} {op : Int → Int → Int} (h : ∀ a b, 0 ≤ op a b ∧ op a b < M f) : ∀ (xs ys : List Int), InF f (List.zipWith op xs ys)
  | [], _ => fun z hz => by simp at hz
  | _ :: _, [] => fun z hz => by simp at hz
  | x :: xs, y :: ys => fun z hz => by
    rw [List.zipWith_cons_cons, List.mem_cons] at hz
    rcases hz with rfl | hz
    · exact h x y
    · exact zip_in h xs ys z hz
theorem sumK_in {f : Int} (hf : f = 1 ∨ f = 2) (N : Nat) (ys : Nat → List Int) : ∀ k, InF f (sumK f N ys k)
  | 0 => fun z hz => by
    obtain rfl := List.eq_of_mem_replicate hz
    rcases hf with rfl | rfl <;> (unfold M; simp)
  | k + 1 => zip_in (fun a b => add_in hf a b) _ _
theorem InF.okU {f : Int} (hf : f = 1 ∨ f = 2) {xs : List Int} (h : InF f xs) : ElemsOK xs := fun z hz => by
  have := h z hz
  rcases hf with rfl | rfl <;> (unfold M at this; simp at this; omega)
theorem zipAt {op : Int → Int → Int} {A B : List Int} {N j : Nat} (hA : A.length = N) (hB : B.length = N) (hj : j < N) : (List.zipWith op A B).getD j 0 = op (A.getD j 0) (B.getD j 0) := by
  simp [List.getD_eq_getElem?_getD, List.getElem?_zipWith, List.getElem?_eq_getElem (show j < A.length by omega), List.getElem?_eq_getElem (show j < B.length by omega)]
/-- What stands behind so many reports: the shares, the numbers. -/
structure Cut (f : Int) (N : Nat) (T S W : List Int) (mx : Int) (k : Nat) : Prop where
  lS : S.length = N
  lW : W.length = N
  iS : InF f S
  at' : ∀ i, i < N → add f (T.getD i 0) (S.getD i 0) = W.getD i 0 ∧ 0 ≤ W.getD i 0 ∧ W.getD i 0 ≤ (k : Int) * mx
theorem M_bigU {f : Int} (hf : f = 1 ∨ f = 2) : 18446744069414584321 ≤ M f := by rcases hf with rfl | rfl <;> (unfold M; simp)
theorem getD_repl (N i : Nat) : (List.replicate N (0 : Int)).getD i 0 = 0 := by
  rw [List.getD_eq_getElem?_getD]
  by_cases h : i < N
  · rw [List.getElem?_replicate, if_pos h]; rfl
  · rw [List.getElem?_replicate, if_neg h]; rfl
theorem Cut.start {f : Int} (hf : f = 1 ∨ f = 2) (N : Nat) (mx : Int) : Cut f N (List.replicate N 0) (List.replicate N 0) (List.replicate N 0) mx 0 :=
  ⟨by simp, by simp, fun z hz => by obtain rfl := List.eq_of_mem_replicate hz; have := M_bigU hf; omega, fun i hi => by
    rw [getD_repl]
    refine ⟨?_, Int.le_refl _, by simp⟩
    rcases hf with rfl | rfl <;> decide +kernel⟩
/-- One report more. -/
theorem Cut.step {f : Int} (hf : f = 1 ∨ f = 2) {N : Nat} {T S W O V W' : List Int} {mx : Int} {k : Nat} (h : Cut f N T S W mx k) (hT : T.length = N) (iT : InF f T) (hO : O.length = N) (iO : InF f O) (hV : V.length = N) (iV : ∀ i, i < N → 0 ≤ V.getD i 0 ∧ V.getD i 0 ≤ mx) (hmx : ((k + 1 : Nat) : Int) * mx < 18446744069414584321) (hW' : W'.length = N) (hat : ∀ i, i < N → W'.getD i 0 = W.getD i 0 + V.getD i 0) :
    Cut f N (List.zipWith (add f) T O) (List.zipWith (add f) S (List.zipWith (sub f) V O)) W' mx (k + 1) := by
  have hM := M_bigU hf
  refine ⟨by rw [List.length_zipWith, List.length_zipWith, h.lS, hV, hO, Nat.min_self, Nat.min_self], hW', zip_in (fun a b => add_in hf a b) _ _, fun i hi => ?_⟩
  obtain ⟨h1, h2, h3⟩ := h.at' i hi
  have hv := iV i hi
  have ea : ((k + 1 : Nat) : Int) * mx = (k : Int) * mx + mx := by rw [Int.natCast_succ, Int.add_mul, Int.one_mul]
  have l2 : (List.zipWith (sub f) V O).length = N := by rw [List.length_zipWith, hV, hO, Nat.min_self]
  rw [zipAt hT hO hi, zipAt h.lS l2 hi, zipAt hV hO hi, hat i hi]
  have t1 := iT.at_ (k := i) (by omega)
  have s1 := h.iS.at_ (k := i) (by rw [h.lS]; omega)
  have o1 := iO.at_ (k := i) (by omega)
  refine ⟨cut_step hf t1.1 t1.2 s1.1 s1.2 o1.1 o1.2 hv.1 (by omega) h1 (by omega), by omega, by rw [ea]; omega⟩
theorem Cut.all {f : Int} {N : Nat} {T S W : List Int} {mx : Int} {k : Nat} (h : Cut f N T S W mx k) (hT : T.length = N) : List.zipWith (add f) T S = W := by
  refine List.ext_getElem (by rw [List.length_zipWith, hT, h.lS, h.lW, Nat.min_self]) fun i h1 h2 => ?_
  have hi : i < N := by rw [← h.lW]; exact h2
  have := (h.at' i hi).1
  rw [← zipAt (op := add f) hT h.lS hi, List.getD_eq_getElem?_getD, List.getD_eq_getElem?_getD, List.getElem?_eq_getElem h1, List.getElem?_eq_getElem h2] at this
  exact this
theorem Cut.le {f : Int} {N : Nat} {T S W : List Int} {mx : Int} {k : Nat} (h : Cut f N T S W mx k) : allLe ((k : Int) * mx) W = true := by
  unfold allLe
  refine List.all_eq_true.2 fun z hz => ?_
  obtain ⟨i, hi, rfl⟩ := List.mem_iff_getElem.1 hz
  have := (h.at' i (by rw [← h.lW]; exact hi)).2.2
  rw [List.getD_eq_getElem?_getD, List.getElem?_eq_getElem hi] at this
  exact decide_eq_true this
/-- A check with a byte turned is another one. -/
theorem xor_ne {a d : Nat} (hd : d ≠ 0) : a ^^^ d ≠ a := fun e => hd (by
  have := congrArg (fun z => a ^^^ z) e
  simpa [← Nat.xor_assoc] using this)
theorem sameC_upd {c : Nat → Nat} {k v : Nat} (hk : k < 16) (hv : v ≠ c k) : sameC c (upd c k v) = false := by
  cases hs : sameC c (upd c k v) with
  | false => rfl
  | true =>
    exfalso
    unfold sameC at hs
    have h2 := congrArg (fun l : List Int => l.getD k 0) (eq_of_beq hs)
    simp [upd, hk] at h2
    exact hv (by omega)
/-- What a measure's numbers come to. -/
theorem trunc_fits {x : Ci} (h : x.Good) {zs : List Int} (hz : WordsOK zs) (hN : zs.length = x.measuredN) (hf : fitsB x zs = true) : ∀ i, i < x.outN → 0 ≤ (truncL x (encL x zs)).getD i 0 ∧ (truncL x (encL x zs)).getD i 0 ≤ (x.mostN : Int) := fun i hi => by
  have e : (truncL x (encL x zs)).getD i 0 = sumN x zs i := by
    rw [← enc_trunc h hz hN hf hi]
    unfold truncL
    simp [hi]
  rw [e]
  unfold sumN
  by_cases h4 : x.k = 4
  · rw [if_pos h4]
    have hm : x.mostN = 1 := by unfold Ci.mostN; rw [if_neg (by omega)]
    rw [hm]
    split <;> omega
  · rw [if_neg h4]
    have hl : i < zs.length := by
      rw [hN]
      unfold Ci.measuredN
      rw [if_neg h4]
      exact hi
    have hm : zs.getD i 0 ∈ zs := by
      rw [List.getD_eq_getElem?_getD, List.getElem?_eq_getElem hl]
      exact List.getElem_mem hl
    exact ⟨(hz _ hm).1, fits_all h4 hf _ hm⟩
theorem trunc_in {x : Ci} (xs : List Int) : InF x.f (truncL x xs) := fun z hz => by
  unfold truncL at hz
  obtain ⟨i, _, rfl⟩ := List.mem_map.1 hz
  exact truncF_bound x xs i
end Go.Proofs.YtpojhomccmfffaaDoor
