/-
  Elements out of a reading of a slice (a field of a struct).
-/
import Derived.Test.YtpojhomccmfffaaDoorElems
import Derived.Test.YtpojhomccmfffaaDoorStructArg
namespace Go.Proofs.YtpojhomccmfffaaDoor
open Go.RowKit Go.WideShapes Go.ChangeShapes F Flow
set_option linter.unusedVariables false

set_option maxRecDepth 100000 in
theorem elems_of {H : Type} {enc : TypeId × Value → H} {w : World} {base : Nat} {spare : Nat → Bool} {held : Bool} {fuel : Nat} {cs : List Value} {x : DataW H × List MemPlace}
    (h : DataW.trod enc Tryd.prog w base spare held fuel 35 cs = some x) :
    ∃ (A : Option Addr) (xs : List Int) (c : Nat), cs = [.slice A xs.length c] ∧ xs.length ≤ c ∧ c ≤ maxLen ∧ ElemsAt w A xs ∧ ElemsOK xs := by
  rcases Go.Deep.open_slice Tryd.underlying35 h with ⟨hc, _⟩ | ⟨a, len, cap, m, n, D, Pl, hcs, hb, hl, hm, hmm, hx, hel⟩
  · exact ⟨none, [], 0, hc, Nat.le_refl _, Nat.zero_le _, fun k hk => absurd hk (Nat.not_lt_zero _), fun x hx => by cases hx⟩
  · skip
    have hlm : len ≤ m := by rw [hmm]; split <;> omega
    have key : ∀ i, i < len → ∃ x : Int, (0 ≤ x ∧ x < 340282366920938463463374607431768211456) ∧ w.cell? (a.add (i * 2)) = some (.int .u64 (lo x)) ∧ w.cell? (a.add (i * 2 + 1)) = some (.int .u64 (hi x)) := by
      intro i hil
      obtain ⟨cs', hc, ht⟩ := hel i (by omega)
      rw [cells_elem] at hc
      obtain ⟨ys, n', _, _, hlc, hyl, hf⟩ := DataW.trod_array Tryd.underlying65 ht
      rw [cells_elem] at hlc
      obtain ⟨c0, c1, rfl⟩ : ∃ c0 c1, cs' = [c0, c1] := by
        match cs', hlc with
        | [c0, c1], _ => exact ⟨c0, c1, rfl⟩
      have h0 := hf 0 (by omega)
      have h1 := hf 1 (by omega)
      rw [cells_u64] at h0 h1
      obtain ⟨y0, hy0⟩ : ∃ y, ys[0]? = some y := ⟨ys[0]'(by omega), List.getElem?_eq_getElem (by omega)⟩
      obtain ⟨y1, hy1⟩ : ∃ y, ys[1]? = some y := ⟨ys[1]'(by omega), List.getElem?_eq_getElem (by omega)⟩
      rw [hy0] at h0
      rw [hy1] at h1
      obtain ⟨x0, e0, _, w0⟩ := DataW.trod_int Tryd.underlying63 h0
      obtain ⟨x1, e1, _, w1⟩ := DataW.trod_int Tryd.underlying63 h1
      have e0' : c0 = .int .u64 x0 := by simpa using e0
      have e1' : c1 = .int .u64 x1 := by simpa using e1
      subst e0' e1'
      obtain ⟨a0, a1⟩ := wf_u64 w0
      obtain ⟨b0, b1⟩ := wf_u64 w1
      obtain ⟨_, _, hat⟩ := World.cells?_some hc
      have g0 := hat 0 (by omega)
      have g1 := hat 1 (by omega)
      rw [Go.Deep.add_add] at g0 g1
      refine ⟨val x0 x1, ⟨by unfold val; omega, by unfold val; omega⟩, ?_, ?_⟩
      · rw [lo_val a0 a1]; exact g0
      · rw [hi_val a0 a1]; exact g1
    obtain ⟨f, hf⟩ := Go.Deep.choose_lt key
    refine ⟨some a, (List.range len).map f, cap, by simpa using hcs, by simpa using hl, by simpa using hm, fun k hk => ?_, fun x hx => ?_⟩
    · have hk' : k < len := by simpa using hk
      obtain ⟨_, g0, g1⟩ := hf k hk'
      have hs := spot_none (hf 0 (by omega)).2.1
      obtain ⟨b, o, sp⟩ := a
      simp only at hs
      subst hs
      rw [add_two rfl] at g0 g1
      have e : ((List.range len).map f).getD k 0 = f k := by simp [hk']
      rw [e]
      exact ⟨b, o, rfl, g0, g1⟩
    · obtain ⟨i, him, rfl⟩ := List.mem_map.1 hx
      exact (hf i (List.mem_range.1 him)).1

end Go.Proofs.YtpojhomccmfffaaDoor
