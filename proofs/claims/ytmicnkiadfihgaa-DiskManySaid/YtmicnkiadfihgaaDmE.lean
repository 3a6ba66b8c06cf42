/-
  How many keys are left: one less each round.
-/
import Derived.Test.YtmicnkiadfihgaaDmD
namespace Go.Proofs.Ytmicnkiadfihgaa
open Go.RowKit Flow Go.Maps
set_option linter.unusedVariables false
set_option linter.unusedSimpArgs false

def leftN (es : List (Lit × DataW Value)) (left : Lit → Bool) : Nat := (es.filter (fun p => left p.1)).length
theorem left_next (left : Lit → Bool) (kl : Lit) (hl : left kl = true) (hself : kl.sameKey kl = true) : ∀ es : List (Lit × DataW Value), es.Pairwise (fun p q => p.1 ≠ q.1) → (∃ p ∈ es, p.1 = kl) → leftN es (fun x => left x && !x.sameKey kl) + 1 = leftN es left
  | [], _, ⟨p, hp, _⟩ => by cases hp
  | a :: es, hp, hin => by
    obtain ⟨h1, h2⟩ := List.pairwise_cons.1 hp
    by_cases e : a.1 = kl
    · have hsame : es.filter (fun p => left p.1 && !p.1.sameKey kl) = es.filter (fun p => left p.1) := by
        apply List.filter_congr
        intro p hp2
        have : p.1 ≠ kl := fun e2 => h1 p hp2 (e.trans e2.symm)
        rw [Maps.sameKey_ne this]
        simp
      unfold leftN
      rw [List.filter_cons, List.filter_cons]
      simp only [e, hl, hself, Bool.not_true, Bool.and_false, if_true, List.length_cons]
      simp only [hsame, Bool.false_eq_true, if_false]
    · have hin2 : ∃ p ∈ es, p.1 = kl := by
        obtain ⟨p, hp1, hp2⟩ := hin
        rcases List.mem_cons.1 hp1 with rfl | h
        · exact absurd hp2 e
        · exact ⟨p, h, hp2⟩
      have ih := left_next left kl hl hself es h2 hin2
      unfold leftN at ih ⊢
      rw [List.filter_cons, List.filter_cons]
      simp only [Maps.sameKey_ne e] at ih ⊢
      cases left a.1
      · simpa using ih
      · simp only [Bool.not_false, Bool.and_true, if_true, List.length_cons]
        omega
theorem left_none (es : List (Lit × DataW Value)) (left : Lit → Bool) (h : ∀ kl, left kl = false) : leftN es left = 0 := by
  unfold leftN
  rw [List.length_eq_zero_iff, List.filter_eq_nil_iff]
  intro p _
  rw [h]
  decide
end Go.Proofs.Ytmicnkiadfihgaa
