/-
  A thing is put, whatever its kind; a thing is taken: its beginning.
-/
import Derived.Test.YtdjgkojcckopaaaRlG
import Derived.Test.YtdjgkojcckopaaaRlB
namespace Go.Proofs.Ytdjgkojcckopaaa
open Go.RowKit Flow
set_option linter.unusedVariables false
set_option linter.unusedSimpArgs false

theorem ThingOf.news {w : World} {k n s : Int} {A : Option Addr} {bs : List Int} {c : Nat} {ss : List Int} (h : ThingOf w k n s A bs c ss) : News w A bs.length c 1 (bs.map (Value.int .u8)) :=
  ⟨by simp, fun e => ⟨by rw [h.hB.1 e]; rfl, h.hc e⟩, fun ad ha j u hj => h.hB.2 ad ha j u hj⟩
theorem ThingOf.up {w w' : World} {k n s : Int} {A : Option Addr} {bs : List Int} {c : Nat} {ss : List Int} (h : ThingOf w k n s A bs c ss) (hb : Below w.heap.size w w') : ThingOf w' k n s A bs c ss :=
  { h with hB := h.hB.up hb }
theorem tbytes_len (k n s : Int) (bs ss : List Int) (h : ss.length = 16) : (tbytes k n s bs ss).length ≤ bs.length + 257 := by
  unfold tbytes tbytes255
  have h8 := (tsize_is s).le
  repeat' split
  all_goals simp [ubytes_len]
  all_goals omega
theorem put_any (p : Nat) (xs : List Int) (k n s : Int) (A : Option Addr) (bs : List Int) (c : Nat) (ss : List Int) (w : World) (hT : ThingOf w k n s A bs c ss) (hlen : xs.length + bs.length ≤ 1000000) (hW : Wr w p xs)
    (hA : 0 < bs.length → ∀ ad, A = some ad → Safe w p ad.block) :
    Calls Try.prog 8 #[.agg (tcells k n s A bs.length c ss).toArray, .pointer (some ⟨p, 0, none⟩)] w (Put p xs (tbytes k n s bs ss) w) := by
  have hN := hT.news
  have k0 := hT.k0.1
  have hr : k % 6 = 0 ∨ k % 6 = 1 ∨ k % 6 = 2 ∨ k % 6 = 3 ∨ k % 6 = 4 ∨ k % 6 = 5 := by omega
  unfold tbytes
  rcases hr with h | h | h | h | h | h
  · rw [if_pos h]
    exact put0 p xs k n s A bs c ss k0 h (by omega) w hW hN hA
  · rw [if_neg (by omega), if_pos h]
    exact put1 p xs k n s A bs c ss k0 h hT.n0 (by omega) w hW hN hA
  · rw [if_neg (by omega), if_neg (by omega), if_pos h]
    exact put2 p xs k n s A bs c ss k0 h (by omega) w hW hN hA
  · rw [if_neg (by omega), if_neg (by omega), if_neg (by omega), if_pos h]
    exact put3 p xs k n s A bs c ss k0 h hT.hb (by omega) hT.hcap (by omega) w hW hN hA
  · rw [if_neg (by omega), if_neg (by omega), if_neg (by omega), if_neg (by omega)]
    exact put4 p xs k n s A bs c ss k0 (.inl h) hT.hs.1 (by omega) w hW hN hA
  · rw [if_neg (by omega), if_neg (by omega), if_neg (by omega), if_neg (by omega)]
    exact put4 p xs k n s A bs c ss k0 (.inr h) hT.hs.1 (by omega) w hW hN hA
theorem arg_but {w w' : World} {o : Nat} {A : Option Addr} {bs : List Int} (h : ArgBytes w A bs) (hb : But o w w') (hA : 0 < bs.length → ∀ ad, A = some ad → ad.block ≠ o) : ArgBytes w' A bs :=
  ⟨h.1, fun ad ha j u hj => by
    have hl := h.2 ad ha j u hj
    have hj' : j < bs.length := by have := (List.getElem?_eq_some_iff.1 hj).1; simpa using this
    rw [World.cell?_of_block (w := w) (a := ad.add j) (hb.block _ (World.block_lt_of_cell? _ _ hl) (by rw [addr_add_block]; exact hA (by omega) ad ha))]
    exact hl⟩
/-- A thing was taken as it was put. -/
def Back (w : World) (o r : Nat) (zs : List Int) (e : Ending) (w' : World) : Prop := ∃ v2, e = .returned (.bool true) ∧ But o w w' ∧ Rd w' o r v2 false 0 ∧ Lf w' o v2 zs
end Go.Proofs.Ytdjgkojcckopaaa
