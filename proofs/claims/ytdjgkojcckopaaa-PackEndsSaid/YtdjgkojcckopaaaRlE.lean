/-
  A thing is put.
-/
import Derived.Test.YtdjgkojcckopaaaRlD
import Derived.Test.YtdjgkojcckopaaaThA
namespace Go.Proofs.Ytdjgkojcckopaaa
open Go.RowKit Flow
set_option linter.unusedVariables false
set_option linter.unusedSimpArgs false

theorem news_step2 {p : Nat} {w w' : World} {A : Option Addr} {m c : Nat} {xs : List Value} (h : News w A m c 1 xs) (hs : Step p w w') (hA : 0 < m → ∀ ad, A = some ad → Safe w p ad.block) : News w' A m c 1 xs :=
  ⟨h.len, h.none, fun ad ha j u hj => by
    have hl := h.lies ad ha j u hj
    have hj' : j < xs.length := (List.getElem?_eq_some_iff.1 hj).1
    have hk := hs.keep (ad.add j).block (by rw [addr_add_block]; exact hA (by have := h.len; omega) ad ha)
    exact (World.cell?_of_block hk.1).trans hl⟩
theorem long_any2 (p : Nat) (xs ys : List Int) (A : Option Addr) (c : Nat) (hlen : xs.length + 4 + ys.length ≤ 1073741824) (w : World) (hW : Wr w p xs) (hN : News w A ys.length c 1 (ys.map (Value.int .u8))) (hA : 0 < ys.length → ∀ ad, A = some ad → Safe w p ad.block) :
    Calls Try.prog 19 #[.pointer (some ⟨p, 0, none⟩), .slice A ys.length c] w fun e w' => e = .returned (.tuple #[]) ∧ Wr w' p (xs ++ ubytes (ys.length : Int) 4 ++ ys) ∧ Step p w w' := by
  have hU := uint_any p xs (ys.length : Int) (by omega) 4 (by decide) (by omega) w hW
  have i0 : (0 : Int) ≤ (ys.length : Int) := by omega
  have i1 : (ys.length : Int) ≤ 1073741824 := by omega
  replace hU := Lib.hid hU
  replace hN := Lib.hid hN
  replace hA := Lib.hid hA
  go_enter Try.func19, Try.ntmps19
  go_wp2_with fail
  refine hU.out.mono ?_
  rintro e w2 ⟨rfl, hW2, hS2⟩
  have hR := raw_any p (xs ++ ubytes (ys.length : Int) 4) ys A c (by rw [List.length_append, ubytes_len]; omega) w2 hW2 (news_step2 hN.out hS2 hA.out)
  replace hR := Lib.hid hR
  clear hU
  go_wp2_with fail
  refine hR.out.mono ?_
  rintro e w3 ⟨rfl, hW3, hS3⟩
  go_wp2
  go_end0
  exact ⟨rfl, hW3, hS2.trans hS3⟩
theorem owns_news {B : Nat} {w : World} {v : Value} {n : Nat} {xs : List Int} (h : w.ownsRow B 5 1 v n (xs.map (Value.int .u8))) (hn : xs.length = n) : ∃ A c, v = .slice A n c ∧ News w A n c 1 (xs.map (Value.int .u8)) := by
  have h0 := h
  rcases h.2 with ⟨rfl, rfl⟩ | ⟨g, cap, cur, rfl, _⟩
  · exact ⟨_, _, rfl, by simp [hn], fun _ => ⟨rfl, rfl⟩, fun ad ha => (by cases ha)⟩
  · exact ⟨_, _, rfl, by simp [hn], fun e => (by cases e), fun ad ha j u hj => by cases ha; exact h0.cells (g := g) rfl j u hj⟩
/-- What a thing is put as. -/
def tsize (s : Int) : Nat := (min (max 0 s) 8).toNat
theorem tsize_is (s : Int) : SizeIs s (tsize s) := by unfold SizeIs tsize; omega
def tbytes (k n s : Int) (bs ss : List Int) : List Int :=
  if k % 6 = 0 then bs else if k % 6 = 1 then ubytes n (tsize s) else if k % 6 = 2 then ubytes (bs.length : Int) 4 ++ bs else if k % 6 = 3 then tbytes255 bs else ss
/-- A thing was put: what is meant is handed back. -/
def Put (p : Nat) (xs tb : List Int) (w : World) (e : Ending) (w' : World) : Prop :=
  ∃ A c, e = .returned (.slice A tb.length c) ∧ News w' A tb.length c 1 (tb.map (Value.int .u8)) ∧ Wr w' p (xs ++ tb) ∧ Step p w w'
/-- A thing that lies in a block. -/
structure Boxed12 (w : World) (g : Nat) (k n s : Int) (A : Option Addr) (m c : Nat) (ss : List Int) : Prop where
  c0 : w.cell? ⟨g, 0, none⟩ = some (.int .u8 k)
  c1 : w.cell? ⟨g, 1, none⟩ = some (.int .u64 n)
  c2 : w.cell? ⟨g, 2, none⟩ = some (.int .i64 s)
  c3 : w.cell? ⟨g, 3, none⟩ = some (.slice A m c)
  r4 : w.rangeAt g 4 (ss.map (Value.int .u8))
theorem boxed_of {w : World} {g : Nat} {t : TypeId} {k n s : Int} {A : Option Addr} {m c : Nat} {ss : List Int} (h : w.heap[g]? = some (.cells (tcells k n s A m c ss).toArray t (0, 0))) : Boxed12 w g k n s A m c ss := by
  refine ⟨?_, ?_, ?_, ?_, fun j u hj => ?_⟩
  · simp [World.cell?, h, tcells]
  · simp [World.cell?, h, tcells]
  · simp [World.cell?, h, tcells]
  · simp [World.cell?, h, tcells]
  · have e : (tcells k n s A m c ss)[4 + j]? = some u := by
      have e4 : 4 + j = j + 4 := by omega
      rw [e4]
      exact hj
    simp [World.cell?, h, e]
theorem boxed_alloc (w : World) (t : TypeId) (k n s : Int) (A : Option Addr) (m c : Nat) (ss : List Int) : Boxed12 (w.alloc (.cells (tcells k n s A m c ss).toArray t (0, 0))) w.heap.size k n s A m c ss :=
  boxed_of (alloc_at rfl)
theorem Boxed12.up {w w' : World} {g : Nat} {k n s : Int} {A : Option Addr} {m c : Nat} {ss : List Int} (h : Boxed12 w g k n s A m c ss) (e : w'.heap[g]? = w.heap[g]?) : Boxed12 w' g k n s A m c ss := by
  have q : ∀ i, w'.cell? ⟨g, i, none⟩ = w.cell? ⟨g, i, none⟩ := fun i => World.cell?_of_block (w := w) (a := ⟨g, i, none⟩) e
  exact ⟨(q 0).trans h.c0, (q 1).trans h.c1, (q 2).trans h.c2, (q 3).trans h.c3, fun j u hj => (q _).trans (h.r4 j u hj)⟩
end Go.Proofs.Ytdjgkojcckopaaa
