/-
  A slice of bytes as an argument: opened; as a string.
-/
import Derived.Test.YtmicnkiadfihgaaRows
import Derived.Test.YtmicnkiadfihgaaFrame
import Derived.Test.YtmicnkiadfihgaaFlow
import Derived.Deep.Slices
import Derived.Laws.BytesArg
namespace Go.Proofs.Ytmicnkiadfihgaa
open Go.RowKit Go.WideShapes Go.ChangeShapes Flow
set_option linter.unusedVariables false

/-- Bytes lie where a slice says. -/
def ArgBytes (w : World) (A : Option Addr) (xs : List Int) : Prop := (A = none → xs = []) ∧ ∀ a, A = some a → ∀ j u, (xs.map (Value.int .u8))[j]? = some u → w.cell? (a.add j) = some u
theorem ArgBytes.up {w w' : World} {A : Option Addr} {xs : List Int} (h : ArgBytes w A xs) (hb : Below w.heap.size w w') : ArgBytes w' A xs :=
  ⟨h.1, fun a ha j u hj => (hb.cell (World.block_lt_of_cell? _ _ (h.2 a ha j u hj))).trans (h.2 a ha j u hj)⟩
theorem ArgBytes.conv {P : Program} {w : World} {A : Option Addr} {xs : List Int} (h : ArgBytes w A xs) {src e dst : TypeId} (hs : P.underlying src = some (.slice e)) (he : P.underlying e = some (.int .u8)) (hd : P.underlying dst = some .string) (c : Nat) :
    (convert src dst (.slice A xs.length c)).run P w = .ok (.string (strOfNums xs)) w := by
  cases A with
  | none =>
    have := h.1 rfl
    subst this
    exact run_convert_bytes_nil w src e hs he 0 c dst hd
  | some a =>
    have hl : (loadCells a xs.length).run P w = .ok (xs.map (Value.int .u8)).toArray w := by
      have := run_loadCells_list (P := P) w a (xs.map (Value.int .u8)) (h.2 a rfl)
      simpa using this
    rw [run_convert_bytes_string w src dst e _ _ c hs he hd, run_bytesToString w _ _ c xs hl, foldl_push_bytes]
    simp [strOfNums, ByteArray.empty, ByteArray.emptyWithCapacity]
    rfl
theorem cells_u8' : (Try.prog).cellsOf 5 = 1 := by kernel_rfl
set_option maxRecDepth 100000 in
theorem open_argbytes {H : Type} {enc : TypeId × Value → H} {w : World} {base : Nat} {spare : Nat → Bool} {held : Bool} {v : Value} {d : DataW H} {p : List MemPlace} {r : Reach} {b0 : Nat}
    (hv : Value.okWide Try.prog w r b0 22 v) (h : DataW.Trod enc Try.prog w base spare held 22 v d p) :
    ∃ (A : Option Addr) (xs : List Int) (c : Nat), v = .slice A xs.length c ∧ xs.length ≤ c ∧ c ≤ maxLen ∧ ArgBytes w A xs ∧ (∀ x, x ∈ xs → 0 ≤ x ∧ x < 256) ∧ (A = none → c = 0) := by
  obtain ⟨a0, len0, cap0, rfl⟩ := okWide_slice Try.underlying22 hv
  obtain ⟨fuel, h⟩ := h
  rcases Go.Deep.open_slice Try.underlying22 h with ⟨hc, _⟩ | ⟨a, len, cap, m, n, D, Pl, hcs, hb, hl, hm, hmm, hx, hel⟩
  · have hv : Value.slice a0 len0 cap0 = .slice none 0 0 := by simpa [Value.cells] using hc
    rw [hv]
    exact ⟨none, [], 0, rfl, Nat.le_refl _, Nat.zero_le _, ⟨fun _ => rfl, fun a ha => by cases ha⟩, fun x hx => (by cases hx), fun _ => rfl⟩
  · have hv : Value.slice a0 len0 cap0 = .slice (some a) len cap := by simpa [Value.cells] using hcs
    rw [hv]
    have hlm : len ≤ m := by rw [hmm]; split <;> omega
    have key : ∀ i, i < len → ∃ x : Int, (0 ≤ x ∧ x < 256) ∧ w.cell? (a.add i) = some (.int .u8 x) := by
      intro i hil
      obtain ⟨cs', hc, ht⟩ := hel i (by omega)
      rw [cells_u8'] at hc
      obtain ⟨x0, e0, _, w0⟩ := DataW.trod_int Try.underlying5 ht
      subst e0
      obtain ⟨_, _, hat⟩ := World.cells?_some hc
      have g0 := hat 0 (by omega)
      rw [Go.Deep.add_add, Nat.mul_one, Nat.add_zero] at g0
      refine ⟨x0, ?_, g0⟩
      simp [Lit.wf, IntKind.min, IntKind.max, IntKind.signed, IntKind.bits] at w0
      omega
    obtain ⟨f, hf⟩ := Go.Deep.choose_lt key
    refine ⟨some a, (List.range len).map f, cap, by simp, by simpa using hl, hm, ⟨fun h => (by cases h), fun a' ha' j u hj => ?_⟩, fun x hx => ?_, fun h => (by cases h)⟩
    · cases ha'
      have hj' : j < len := by have := (List.getElem?_eq_some_iff.1 hj).1; simpa using this
      rw [(hf j hj').2]
      simp [hj'] at hj
      rw [← hj]
    · obtain ⟨i, him, rfl⟩ := List.mem_map.1 hx
      exact (hf i (List.mem_range.1 him)).1
end Go.Proofs.Ytmicnkiadfihgaa
