/-
  ReplayUnlike: what is in the one alone, what is in both and differs.
-/
import Derived.Test.YtkngcffgoimjkaaRuC
import Derived.Test.YtkngcffgoimjkaaAppend
namespace Go.Proofs.Ytkngcffgoimjkaa
open Go.RowKit Flow
set_option linter.unusedVariables false
set_option linter.unusedSimpArgs false

def inB (m : List Sn) (ys : List Int) : Bool := m.any (fun u => u.id == ys)
def gotS (m : List Sn) (ys : List Int) : Sn := (m.find? (fun u => u.id == ys)).getD ⟨noId, 0, 0⟩
theorem inB_iff {m : List Sn} {ys : List Int} : inB m ys = true ↔ In m ys := by
  unfold inB In
  rw [List.any_eq_true]
  constructor
  · rintro ⟨u, hu, he⟩
    obtain ⟨j, hj, rfl⟩ := List.getElem_of_mem hu
    refine ⟨j, hj, ?_⟩
    unfold nth
    rw [List.getD_eq_getElem?_getD, List.getElem?_eq_getElem hj]
    exact eq_of_beq he
  · rintro ⟨j, hj, he⟩
    exact ⟨nth m j, nth_mem hj, by rw [he]; simp⟩
theorem has_is {m : List Sn} {ys : List Int} {k : Nat} (hr : Rising m) (hk : Place m ys k) : hasB m ys k = inB m ys := by
  cases h : inB m ys with
  | true => exact in_has hr hk (inB_iff.1 h)
  | false =>
    cases hb : hasB m ys k with
    | false => rfl
    | true =>
      have := inB_iff.2 (has_in hb)
      rw [h] at this
      cases this
theorem got_is {m : List Sn} {ys : List Int} {k : Nat} (hr : Rising m) (hk : Place m ys k) : gotV m ys k = .agg (gotS m ys).cells.toArray := by
  unfold gotV
  cases hb : hasB m ys k with
  | false =>
    rw [if_neg (by simp)]
    have hn : inB m ys = false := by rw [← has_is hr hk]; exact hb
    have : m.find? (fun u => u.id == ys) = none := by
      rw [List.find?_eq_none]
      intro u hu he
      have : inB m ys = true := List.any_eq_true.2 ⟨u, hu, he⟩
      rw [hn] at this
      cases this
    unfold gotS
    rw [this]
    rfl
  | true =>
    rw [if_pos rfl]
    have hk2 : k < m.length ∧ (nth m k).id = ys := by
      unfold hasB at hb
      rw [Bool.and_eq_true] at hb
      exact ⟨of_decide_eq_true hb.1, by simpa using hb.2⟩
    have : gotS m ys = nth m k := by
      unfold gotS
      cases hf : m.find? (fun u => u.id == ys) with
      | none =>
        rw [List.find?_eq_none] at hf
        exact absurd (by rw [hk2.2]; simp) (hf _ (nth_mem hk2.1))
      | some u =>
        have hu := List.mem_of_find?_eq_some hf
        have he : (u.id == ys) = true := List.find?_some (p := fun u : Sn => u.id == ys) hf
        obtain ⟨j, hj, rfl⟩ := List.getElem_of_mem hu
        have e : nth m j = m[j] := by unfold nth; rw [List.getD_eq_getElem?_getD, List.getElem?_eq_getElem hj]; rfl
        have hjk : j = k := place_at hr hk hj (by rw [e]; exact eq_of_beq he)
        subst hjk
        rw [Option.getD_some, e]
    rw [this]
    rfl
theorem gotS_len {m : List Sn} {ys : List Int} (hok : AllOK m) : (gotS m ys).id.length = 16 := by
  unfold gotS
  cases hf : m.find? (fun u => u.id == ys) with
  | none => rfl
  | some u => exact (hok u (List.mem_of_find?_eq_some hf)).len
def alone (m : List Sn) (s : Sn) : Bool := !inB m s.id
def differs (m : List Sn) (s : Sn) : Bool := inB m s.id && !eqS s (gotS m s.id)
theorem eqS_comm (s u : Sn) : eqS s u = eqS u s := by
  cases h : eqS u s with
  | true => rw [eqS_eq h]; exact eqS_refl _
  | false =>
    cases h2 : eqS s u with
    | false => rfl
    | true =>
      rw [eqS_eq h2, eqS_refl] at h
      cases h
/-- The reports of a beginning that are so. -/
def upTo (f : Sn → Bool) (l : List Sn) (j : Nat) : List Sn := (l.take j).filter f
theorem upTo_next {f : Sn → Bool} {l : List Sn} {j : Nat} (hj : j < l.length) : upTo f l (j + 1) = upTo f l j ++ (if f (nth l j) = true then [nth l j] else []) := by
  have e : nth l j = l[j] := by unfold nth; rw [List.getD_eq_getElem?_getD, List.getElem?_eq_getElem hj]; rfl
  unfold upTo
  rw [List.take_add_one, List.getElem?_eq_getElem hj, List.filter_append, e]
  by_cases h : f l[j] = true
  · rw [if_pos h]
    simp [h]
  · rw [if_neg h]
    simp [h]
theorem upTo_all (f : Sn → Bool) (l : List Sn) : upTo f l l.length = l.filter f := by unfold upTo; rw [List.take_length]
theorem upTo_len {f : Sn → Bool} {l : List Sn} {j : Nat} : (upTo f l j).length ≤ j := by
  unfold upTo
  exact Nat.le_trans (List.length_filter_le _ _) (by rw [List.length_take]; omega)
theorem upTo_ok {f : Sn → Bool} {l : List Sn} {j : Nat} (h : AllOK l) : AllOK (upTo f l j) := fun s hs => h s (List.mem_of_mem_take (List.mem_filter.1 hs).1)
theorem rowS_app (l : List Sn) (s : Sn) : rowS (l ++ [s]) = rowS l ++ s.cells := by
  unfold rowS
  rw [List.flatMap_append]
  simp
/-- A growing list of reports. -/
structure Gr (B : Nat) (l : List Sn) (v : Value) (w : World) : Prop where
  own : w.ownsRow B 32 18 v l.length (rowS l)
  is : ∃ A c, v = .slice A l.length c
theorem Gr.up {B : Nat} {l : List Sn} {v : Value} {w w' : World} (h : Gr B l v w) (hb : Below w.heap.size w w') : Gr B l v w' := ⟨owns_up h.own hb, h.is⟩
theorem Gr.grown {B : Nat} {l : List Sn} {v : Value} {w w' : World} (h : Gr B l v w) {r : Option Nat} (hg : w.grownBy w' r) (hne : ∀ g, v.ownBlock = some g → r ≠ some g) : Gr B l v w' :=
  ⟨h.own.kept hg (by
    cases hv : v.ownBlock with
    | none => exact .inl rfl
    | some g => exact .inr (fun e => hne g hv e.symm)), h.is⟩
theorem Gr.nil (B : Nat) (w : World) : Gr B [] (.slice none 0 0) w := ⟨World.ownsRow_nil _ _ _ _, none, 0, rfl⟩
theorem Gr.rows {B : Nat} {l : List Sn} {A : Option Addr} {n c : Nat} {w : World} (h : Gr B l (.slice A n c) w) (hok : AllOK l) : n = l.length ∧ RowsOf w A l := by
  obtain ⟨A2, c2, e⟩ := h.is
  cases e
  refine ⟨rfl, fun i hi => ?_⟩
  rcases h.own.2 with ⟨_, h0⟩ | ⟨g, cap2, cur, e, _⟩
  · omega
  · cases e
    exact ⟨g, rfl, row_at hok h.own hi⟩
end Go.Proofs.Ytkngcffgoimjkaa
