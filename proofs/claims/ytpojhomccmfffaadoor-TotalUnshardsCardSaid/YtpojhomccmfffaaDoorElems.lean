/-
  Slices of elements, and of bytes, as arguments: what lies where; kept by what makes new memory alone.
-/
import Derived.Test.YtpojhomccmfffaaDoorBC
import Derived.Test.YtpojhomccmfffaaDoorFrame
import Derived.Test.YtpojhomccmfffaaDoorBA
import Derived.Deep.Slices
namespace Go.Proofs.YtpojhomccmfffaaDoor
open Go.RowKit Go.WideShapes Go.ChangeShapes F Flow

/-- Elements lie at an address, one behind the other. -/
def ElemsAt (w : World) (A : Option Addr) (xs : List Int) : Prop :=
  ∀ k, k < xs.length → ∃ b o, A = some ⟨b, o, none⟩ ∧ w.cell? ⟨b, o + k * 2, none⟩ = some (.int .u64 (lo (xs.getD k 0))) ∧ w.cell? ⟨b, o + k * 2 + 1, none⟩ = some (.int .u64 (hi (xs.getD k 0)))
/-- Small numbers lie at an address. -/
def BytesAt (w : World) (A : Option Addr) (xs : List Int) : Prop :=
  ∀ k, k < xs.length → ∃ b o, A = some ⟨b, o, none⟩ ∧ w.cell? ⟨b, o + k, none⟩ = some (.int .u8 (xs.getD k 0))
theorem ElemsAt.up {w w' : World} {A : Option Addr} {xs : List Int} (h : ElemsAt w A xs) (hb : Below w.heap.size w w') : ElemsAt w' A xs := fun k hk => by
  obtain ⟨b, o, e, h1, h2⟩ := h k hk
  exact ⟨b, o, e, (hb.cell (World.block_lt_of_cell? _ _ h1)).trans h1, (hb.cell (World.block_lt_of_cell? _ _ h2)).trans h2⟩
theorem BytesAt.up {w w' : World} {A : Option Addr} {xs : List Int} (h : BytesAt w A xs) (hb : Below w.heap.size w w') : BytesAt w' A xs := fun k hk => by
  obtain ⟨b, o, e, h1⟩ := h k hk
  exact ⟨b, o, e, (hb.cell (World.block_lt_of_cell? _ _ h1)).trans h1⟩
def ElemsOK (xs : List Int) : Prop := ∀ x, x ∈ xs → 0 ≤ x ∧ x < 340282366920938463463374607431768211456
def BytesOK (xs : List Int) : Prop := ∀ x, x ∈ xs → 0 ≤ x ∧ x < 256
theorem ElemsOK.at_ {xs : List Int} (h : ElemsOK xs) {k : Nat} (hk : k < xs.length) : 0 ≤ xs.getD k 0 ∧ xs.getD k 0 < 340282366920938463463374607431768211456 := by
  rw [List.getD_eq_getElem?_getD, List.getElem?_eq_getElem hk]
  exact h _ (List.getElem_mem hk)

theorem add_two {a : Addr} {b o i : Nat} (h : a = ⟨b, o, none⟩) : a.add i = ⟨b, o + i, none⟩ := by
  subst h
  exact Go.WideShapes.add_plain b o i

theorem spot_none {w : World} {a : Addr} {v : Value} (h : w.cell? (a.add 0) = some v) : a.spot = none := by
  have := World.cell?_spot h
  simpa [Addr.add] using this

set_option maxRecDepth 100000 in
theorem open_elems {H : Type} {enc : TypeId × Value → H} {w : World} {base : Nat} {spare : Nat → Bool} {held : Bool} {v : Value} {d : DataW H} {p : List MemPlace} {r : Reach} {b0 : Nat}
    (hv : Value.okWide Tryd.prog w r b0 35 v) (h : DataW.Trod enc Tryd.prog w base spare held 35 v d p) :
    ∃ (A : Option Addr) (xs : List Int) (c : Nat), v = .slice A xs.length c ∧ xs.length ≤ c ∧ c ≤ maxLen ∧ ElemsAt w A xs ∧ ElemsOK xs := by
  obtain ⟨a0, len0, cap0, rfl⟩ := okWide_slice Tryd.underlying35 hv
  obtain ⟨fuel, h⟩ := h
  rcases Go.Deep.open_slice Tryd.underlying35 h with ⟨hc, _⟩ | ⟨a, len, cap, m, n, D, Pl, hcs, hb, hl, hm, hmm, hx, hel⟩
  · have hv : Value.slice a0 len0 cap0 = .slice none 0 0 := by simpa [Value.cells] using hc
    rw [hv]
    exact ⟨none, [], 0, rfl, Nat.le_refl _, Nat.zero_le _, fun k hk => absurd hk (Nat.not_lt_zero _), fun x hx => by cases hx⟩
  · have hv : Value.slice a0 len0 cap0 = .slice (some a) len cap := by simpa [Value.cells] using hcs
    rw [hv]
    have hlm : len ≤ m := by rw [hmm]; split <;> omega
    have key : ∀ i, i < len → ∃ x : Int, (0 ≤ x ∧ x < 340282366920938463463374607431768211456) ∧ w.cell? (a.add (i * 2)) = some (.int .u64 (lo x)) ∧ w.cell? (a.add (i * 2 + 1)) = some (.int .u64 (hi x)) := by
      intro i hil
      obtain ⟨cs', hc, ht⟩ := hel i (by omega)
      rw [cells_elem] at hc
      obtain ⟨ys, n', _, _, hlc, hyl, hf⟩ := DataW.trod_array Tryd.underlying65 ht
      rw [cells_elem] at hlc
      obtain ⟨c0, c1, rfl⟩ : ∃ c0 c1, cs' = [c0, c1] := by
        match cs', hlc with
        | [c0, c1], _ => exact ⟨c0, c1, rfl⟩
      have h0 := hf 0 (by omega)
      have h1 := hf 1 (by omega)
      rw [cells_u64] at h0 h1
      obtain ⟨y0, hy0⟩ : ∃ y, ys[0]? = some y := ⟨ys[0]'(by omega), List.getElem?_eq_getElem (by omega)⟩
      obtain ⟨y1, hy1⟩ : ∃ y, ys[1]? = some y := ⟨ys[1]'(by omega), List.getElem?_eq_getElem (by omega)⟩
      rw [hy0] at h0
      rw [hy1] at h1
      obtain ⟨x0, e0, _, w0⟩ := DataW.trod_int Tryd.underlying63 h0
      obtain ⟨x1, e1, _, w1⟩ := DataW.trod_int Tryd.underlying63 h1
      have e0' : c0 = .int .u64 x0 := by simpa using e0
      have e1' : c1 = .int .u64 x1 := by simpa using e1
      subst e0' e1'
      obtain ⟨a0, a1⟩ := wf_u64 w0
      obtain ⟨b0, b1⟩ := wf_u64 w1
      obtain ⟨_, _, hat⟩ := World.cells?_some hc
      have g0 := hat 0 (by omega)
      have g1 := hat 1 (by omega)
      rw [Go.Deep.add_add] at g0 g1
      refine ⟨val x0 x1, ⟨by unfold val; omega, by unfold val; omega⟩, ?_, ?_⟩
      · rw [lo_val a0 a1]; exact g0
      · rw [hi_val a0 a1]; exact g1
    obtain ⟨f, hf⟩ := Go.Deep.choose_lt key
    refine ⟨some a, (List.range len).map f, cap, by simp, by simpa using hl, hm, fun k hk => ?_, fun x hx => ?_⟩
    · have hk' : k < len := by simpa using hk
      obtain ⟨_, g0, g1⟩ := hf k hk'
      have hs := spot_none (hf 0 (by omega)).2.1
      obtain ⟨b, o, sp⟩ := a
      simp only at hs
      subst hs
      rw [add_two rfl] at g0 g1
      have e : ((List.range len).map f).getD k 0 = f k := by simp [hk']
      rw [e]
      exact ⟨b, o, rfl, g0, g1⟩
    · obtain ⟨i, him, rfl⟩ := List.mem_map.1 hx
      exact (hf i (List.mem_range.1 him)).1

theorem cells_u8 : (Tryd.prog).cellsOf 5 = 1 := by kernel_rfl
set_option maxRecDepth 100000 in
theorem open_bytes {H : Type} {enc : TypeId × Value → H} {w : World} {base : Nat} {spare : Nat → Bool} {held : Bool} {v : Value} {d : DataW H} {p : List MemPlace} {r : Reach} {b0 : Nat}
    (hv : Value.okWide Tryd.prog w r b0 70 v) (h : DataW.Trod enc Tryd.prog w base spare held 70 v d p) :
    ∃ (A : Option Addr) (xs : List Int) (c : Nat), v = .slice A xs.length c ∧ xs.length ≤ c ∧ c ≤ maxLen ∧ BytesAt w A xs ∧ BytesOK xs := by
  obtain ⟨a0, len0, cap0, rfl⟩ := okWide_slice Tryd.underlying70 hv
  obtain ⟨fuel, h⟩ := h
  rcases Go.Deep.open_slice Tryd.underlying70 h with ⟨hc, _⟩ | ⟨a, len, cap, m, n, D, Pl, hcs, hb, hl, hm, hmm, hx, hel⟩
  · have hv : Value.slice a0 len0 cap0 = .slice none 0 0 := by simpa [Value.cells] using hc
    rw [hv]
    exact ⟨none, [], 0, rfl, Nat.le_refl _, Nat.zero_le _, fun k hk => absurd hk (Nat.not_lt_zero _), fun x hx => by cases hx⟩
  · have hv : Value.slice a0 len0 cap0 = .slice (some a) len cap := by simpa [Value.cells] using hcs
    rw [hv]
    have hlm : len ≤ m := by rw [hmm]; split <;> omega
    have key : ∀ i, i < len → ∃ x : Int, (0 ≤ x ∧ x < 256) ∧ w.cell? (a.add i) = some (.int .u8 x) := by
      intro i hil
      obtain ⟨cs', hc, ht⟩ := hel i (by omega)
      rw [cells_u8] at hc
      obtain ⟨x0, e0, _, w0⟩ := DataW.trod_int Tryd.underlying5 ht
      subst e0
      obtain ⟨_, _, hat⟩ := World.cells?_some hc
      have g0 := hat 0 (by omega)
      rw [Go.Deep.add_add, Nat.mul_one, Nat.add_zero] at g0
      refine ⟨x0, ?_, g0⟩
      simp [Lit.wf, IntKind.min, IntKind.max, IntKind.signed, IntKind.bits] at w0
      omega
    obtain ⟨f, hf⟩ := Go.Deep.choose_lt key
    refine ⟨some a, (List.range len).map f, cap, by simp, by simpa using hl, hm, fun k hk => ?_, fun x hx => ?_⟩
    · have hk' : k < len := by simpa using hk
      obtain ⟨_, g0⟩ := hf k hk'
      have hs := spot_none (hf 0 (by omega)).2
      obtain ⟨b, o, sp⟩ := a
      simp only at hs
      subst hs
      rw [add_two rfl] at g0
      have e : ((List.range len).map f).getD k 0 = f k := by simp [hk']
      rw [e]
      exact ⟨b, o, rfl, g0⟩
    · obtain ⟨i, him, rfl⟩ := List.mem_map.1 hx
      exact (hf i (List.mem_range.1 him)).1
end Go.Proofs.YtpojhomccmfffaaDoor
