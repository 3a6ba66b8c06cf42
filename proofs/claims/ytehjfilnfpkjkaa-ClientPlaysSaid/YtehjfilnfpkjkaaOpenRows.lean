/-
  A slice of structs as an argument, opened: its elements' cells, and what is known of each.
-/
import Derived.Test.YtehjfilnfpkjkaaRows
import Derived.Test.YtehjfilnfpkjkaaFlow
import Derived.WalkKit
import Derived.ProofKit
import Derived.OpenShut
import Derived.Deep.Slices
import Derived.Deep.MidRow
import Derived.Test.YtehjfilnfpkjkaaMid
namespace Go.Proofs.Ytehjfilnfpkjkaa
open Go Go.RowKit Go.WideShapes Go.ChangeShapes
set_option linter.unusedVariables false
section
variable {H : Type} {enc : TypeId × Value → H} {P : Program} {w : World} {base : Nat} {spare : Nat → Bool} {held : Bool}
theorem open_structs {t e : TypeId} {N : Nat} (hN0 : 0 < N) (ht : P.underlying t = some (.slice e)) (hN : P.cellsOf e = N) (R : List Value → Prop)
    (hR : ∀ n cs x, DataW.trod enc P w base spare held n e cs = some x → R cs) {A : Option Addr} {n c : Nat} {d : DataW H} {p : List MemPlace} (h : DataW.Trod enc P w base spare held t (.slice A n c) d p) :
    ∃ (xs : List (List Value)), xs.length = n ∧ n ≤ c ∧ c ≤ maxLen ∧ (A = none → n = 0 ∧ c = 0) ∧ (∀ k, k < n → ∃ b o, A = some ⟨b, o, none⟩ ∧ w.rangeAt b (o + k * N) (xs.getD k [])) ∧ ∀ x, x ∈ xs → R x ∧ x.length = N := by
  obtain ⟨fuel, h⟩ := h
  rcases Go.Deep.open_slice ht h with ⟨hc, _⟩ | ⟨a, len, cap, m, n', D, Pl, hcs, hb, hl, hm, hmm, hx, hel⟩
  · have hv : Value.slice A n c = .slice none 0 0 := by simpa [Value.cells] using hc
    cases hv
    exact ⟨[], rfl, Nat.le_refl _, Nat.zero_le _, fun _ => ⟨rfl, rfl⟩, fun k hk => absurd hk (Nat.not_lt_zero _), fun x hx => by cases hx⟩
  · have hv : Value.slice A n c = .slice (some a) len cap := by simpa [Value.cells] using hcs
    cases hv
    have hlm : n ≤ m := by rw [hmm]; split <;> omega
    have key : ∀ i, i < n → ∃ cs : List Value, (cs.length = N ∧ R cs) ∧ ∀ j u, cs[j]? = some u → w.cell? (a.add (i * N + j)) = some u := by
      intro i hil
      obtain ⟨cs', hc, ht'⟩ := hel i (by omega)
      rw [hN] at hc
      obtain ⟨_, hlen, hat⟩ := World.cells?_some hc
      refine ⟨cs', ⟨hlen, hR _ _ _ ht'⟩, fun j u hj => ?_⟩
      have hjl : j < cs'.length := (List.getElem?_eq_some_iff.1 hj).1
      have g := hat j (by omega)
      rw [Go.Deep.add_add] at g
      rw [g]
      have e := (List.getElem?_eq_some_iff.1 hj).2
      first | (rw [← e]; done) | (rw [hj]; done) | simpa using hj
    obtain ⟨f, hf⟩ := Go.Deep.choose_lt key
    refine ⟨(List.range n).map f, by simp, by simpa using hl, hm, fun h => (by cases h), fun k hk => ?_, fun x hx => ?_⟩
    · obtain ⟨⟨hlen, _⟩, hat⟩ := hf k hk
      obtain ⟨⟨hlen0, _⟩, hat0⟩ := hf 0 (by omega)
      obtain ⟨u, hu⟩ : ∃ u, (f 0)[0]? = some u := ⟨(f 0)[0]'(by omega), List.getElem?_eq_getElem (by omega)⟩
      have h0 := hat0 0 u hu
      have hs : a.spot = none := by
        have := World.cell?_spot h0
        simpa [Addr.add] using this
      obtain ⟨b, o, sp⟩ := a
      simp only at hs
      subst hs
      refine ⟨b, o, rfl, ?_⟩
      have e : ((List.range n).map f).getD k [] = f k := by simp [hk]
      rw [e]
      intro j v hj
      have := hat j v hj
      rw [Addr.add_mid] at this
      rw [Nat.add_assoc]
      exact this
    · obtain ⟨i, him, rfl⟩ := List.mem_map.1 hx
      have := (hf i (List.mem_range.1 him)).1
      exact ⟨this.2, this.1⟩
end
end Go.Proofs.Ytehjfilnfpkjkaa
