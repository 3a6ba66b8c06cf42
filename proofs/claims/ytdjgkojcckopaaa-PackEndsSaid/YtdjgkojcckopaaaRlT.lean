/-
  Things put one behind the other: what is meant, beside what was put.
-/
import Derived.Test.YtdjgkojcckopaaaRlQ
namespace Go.Proofs.Ytdjgkojcckopaaa
open Go.RowKit Flow
set_option linter.unusedVariables false
set_option linter.unusedSimpArgs false

theorem put_th (p : Nat) (xs : List Int) (t : Th) (W w : World) (hT : t.Ok W) (hb : Below W.heap.size W w) (hp : W.heap.size ≤ p) (hlen : xs.length + t.bs.length ≤ 1000000) (hW : Wr w p xs) :
    Calls Try.prog 8 #[.agg t.cells.toArray, .pointer (some ⟨p, 0, none⟩)] w (Put p xs t.bytes w) :=
  put_any p xs t.k t.n t.s t.A t.bs t.c t.ss w (Th.up hT hb) hlen hW fun h0 ad ha => hW.safe_old (by have := Th.low hT h0 ad ha; omega)
theorem owns_keep {B : Nat} {w w' : World} {e : TypeId} {v : Value} {n : Nat} {xs : List Value} (h : w.ownsRow B e 1 v n xs) (hk : ∀ b, v.ownBlock = some b → w'.heap[b]? = w.heap[b]?) : w'.ownsRow B e 1 v n xs := by
  refine ⟨h.1, ?_⟩
  rcases h.2 with hn | ⟨g, cap, cur, rfl, hbb, hgg, rest⟩
  · exact .inl hn
  · exact .inr ⟨g, cap, cur, rfl, hbb, (hk g rfl).trans hgg, rest⟩
/-- What was put, and what is meant. -/
structure Puts (W w : World) (p : Nat) (xs : List Int) (v : Value) : Prop where
  hb : Below W.heap.size W w
  hW : Wr w p xs
  own : w.ownsRow (p + 1) 5 1 v xs.length (xs.map (Value.int .u8))
  off : ∀ b, v.ownBlock = some b → Safe w p b
theorem Puts.step {W w w' : World} {p : Nat} {xs ys : List Int} {v : Value} (h : Puts W w p xs v) (hp : W.heap.size ≤ p) (hS : Step p w w') (hW : Wr w' p ys) :
    Below W.heap.size W w' ∧ w'.ownsRow (p + 1) 5 1 v xs.length (xs.map (Value.int .u8)) ∧ ∀ b, v.ownBlock = some b → Safe w' p b :=
  ⟨h.hb.trans ((Step.below hS h.hW).mono hp), owns_keep h.own (fun b hb => (hS.keep b (h.off b hb)).1), fun b hb => (hS.keep b (h.off b hb)).2⟩
theorem Puts.up {W w w' : World} {p : Nat} {xs : List Int} {v : Value} (h : Puts W w p xs v) (hb : Below w.heap.size w w') : Puts W w' p xs v := by
  have hS := Step.of_below h.hW.lt hb
  exact ⟨below_next h.hb h.hb.size hb, h.hW.up hb, owns_keep h.own (fun b h2 => (hS.keep b (h.off b h2)).1), fun b h2 => (hS.keep b (h.off b h2)).2⟩
theorem Puts.grown {W w w' : World} {p : Nat} {ys : List Int} {v v' : Value} (hb : Below W.heap.size W w) (hp : W.heap.size ≤ p) (hW : Wr w p ys) (hoff : ∀ b, v.ownBlock = some b → Safe w p b)
    (hg : w.grownBy w' v.ownBlock) (hwh : v'.ownBlock = v.ownBlock ∨ v'.ownBlock = some w.heap.size) (n : Nat) (hn : n = ys.length) (hown : w'.ownsRow (p + 1) 5 1 v' n (ys.map (Value.int .u8)))
    (hown0 : ∀ b, v.ownBlock = some b → p + 1 ≤ b) : Puts W w' p ys v' := by
  subst hn
  obtain ⟨vw, hv, hrow⟩ := hW
  have hlt := lt_of_get hv
  have hkeep : ∀ b, b < w.heap.size → v.ownBlock ≠ some b → w'.heap[b]? = w.heap[b]? := fun b h1 h2 => hg.block b h1 (fun e => h2 e.symm)
  have hpp : v.ownBlock ≠ some p := fun e => (hoff p e).1 rfl
  refine ⟨hb.grown hg hb.size (fun k hk => by have := hown0 k hk; omega), ⟨vw, (hkeep p hlt hpp).trans hv, owns_keep hrow fun b hbw => hkeep b (hrow.lt b hbw).2 fun e => (hoff b e).2.2 vw hv hbw⟩, hown, fun b hbv => ?_⟩
  have hl := hown.lt b hbv
  refine ⟨by omega, hl.2, fun u hu e => ?_⟩
  rw [hkeep p hlt hpp, hv] at hu
  cases hu
  rcases hwh with h | h
  · rw [h] at hbv
    exact (hoff b hbv).2.2 vw hv e
  · rw [h] at hbv
    cases hbv
    have := (hrow.lt w.heap.size e).2
    omega
end Go.Proofs.Ytdjgkojcckopaaa
