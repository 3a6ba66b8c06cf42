import Derived.Test.YtgdokfchfgnbbaaGreatDD
import Derived.Test.YtgdokfchfgnbbaaGreatBD
import Derived.Outline
import Derived.Deep.DeepCutAuto
import Derived.Deep.CutBlock
/-
  Sums as numbers.
-/
namespace Go.Proofs.YtgdokfchfgnbbaaGreat
open Go.RowKit Flow F
set_option linter.unusedVariables false
set_option linter.unusedSimpArgs false

theorem fin_any (f a : Int) (hf : f = 1 ∨ f = 2) (a0 : 0 ≤ a) (w : World) : Calls Tryz.prog 102 #[.int .u8 f, .agg #[.int .u64 (lo a), .int .u64 (hi a)]] w fun e w' => e = .returned (.bool (decide (a < M f))) ∧ Below w.heap.size w w' := by
  rcases hf with rfl | rfl
  · have h := fin_one a w
    rw [show decide (0 ≤ a) = true by simpa using a0, Bool.and_true] at h
    exact h
  · exact fin_two a w
/-- A row of words. -/
def WRow (w : World) (g : Nat) (zs : List Int) : Prop := w.heap[g]? = some (.cells (zs.map (Value.int .u64)).toArray 33 (0, 0))
theorem WRow.up {w w' : World} {g : Nat} {zs : List Int} (h : WRow w g zs) (hb : Below w.heap.size w w') : WRow w' g zs := keeps hb h
theorem WRow.alloc {w : World} {g : Nat} {zs : List Int} (h : WRow w g zs) (o : Obj) : WRow (w.alloc o) g zs := alloc_keeps h
theorem WRow.at_ {w : World} {g k : Nat} {zs : List Int} (h : WRow w g zs) (hk : k < zs.length) : w.cell? ⟨g, k, none⟩ = some (.int .u64 (zs.getD k 0)) := by
  have h' : w.heap[g]? = some (.cells (zs.map (Value.int .u64)).toArray 33 (0, 0)) := h
  simp [World.cell?, h', hk]
theorem WRow.free {w : World} {g : Nat} {zs : List Int} (h : WRow w g zs) (k : Nat) : w.frozen? ⟨g, k, none⟩ = false := by
  have h' : w.heap[g]? = some (.cells (zs.map (Value.int .u64)).toArray 33 (0, 0)) := h
  simp [World.frozen?, h']
theorem WRow.set {w : World} {g k : Nat} {zs : List Int} (h : WRow w g zs) (z : Int) : WRow (w.setCell ⟨g, k, none⟩ (.int .u64 z)) g (zs.set k z) := by
  unfold WRow at *
  rw [store1 h]
  simp [List.map_set]
theorem WRow.words {w : World} {g : Nat} {zs : List Int} (h : WRow w g zs) : WordsAt w (some ⟨g, 0, none⟩) zs := words_of h
theorem info_u64 : (Tryz.prog.info? 33).map (fun i => (i.zero, i.size, i.bytes)) = some (some (.int .u64 0), 1, 8) := by kernel_rfl
theorem make_words (k : Nat) (hk : k ≤ 4096) (w : World) : (Instr.makeSlice 54 (.int .i64 (k : Int)) (.int .i64 (k : Int))).run Tryz.prog w = .ok (.slice (some ⟨w.heap.size, 0, none⟩) k k) (w.alloc (.cells (Array.replicate k (Value.int .u64 0)) 33)) := by
  obtain ⟨i0, h0, h1, h2, h3⟩ := info_parts info_u64
  have hr := run_make (P := Tryz.prog) w 54 33 i0 _ Tryz.underlying54 h0 h1 .i64 .i64 k k (by omega) (by omega) (by rw [h3]; omega) (by omega)
  simp only [Int.toNat_natCast] at hr
  rw [h2] at hr
  have e : madeCells (Value.int .u64 0).cells (k * 1) = Array.replicate k (Value.int .u64 0) := by
    have := toList_madeCells_one (.int .u64 0) (k * 1)
    apply Array.toList_inj.1
    rw [show (Value.int .u64 0).cells = #[.int .u64 0] from rfl, this, Nat.mul_one]
    simp
  rw [e] at hr
  exact hr
theorem wrow_new (w : World) (k : Nat) : WRow (w.alloc (.cells (Array.replicate k (Value.int .u64 0)) 33)) w.heap.size (List.replicate k 0) := by
  unfold WRow
  rw [alloc_at rfl]
  simp
/-- Its error. -/
def decE (x : Ci) (N : Nat) (xs : List Int) (many : Int) : Int := if x.code = 0 then (if N = x.outN then (if many < 0 ∨ 256 < many then 6 else (if allLe (many * (x.mostN : Int)) xs = true then 0 else 6)) else 9) else x.code
def DecOut (xs : List Int) (w : World) (e : Ending) (w' : World) : Prop := ∃ g, e = .returned (.tuple #[.slice (some ⟨g, 0, none⟩) xs.length xs.length, .int .i64 0]) ∧ Below w.heap.size w w' ∧ w.heap.size ≤ g ∧ WRow w' g xs
def DecBad (c : Int) (w : World) (e : Ending) (w' : World) : Prop := e = .returned (.tuple #[.slice none 0 0, .int .i64 c]) ∧ Below w.heap.size w w'
end Go.Proofs.YtgdokfchfgnbbaaGreat

/-
  CircuitDecodes: its walk.
-/
namespace Go.Proofs.YtgdokfchfgnbbaaGreat
open Go.RowKit Flow F
set_option linter.unusedVariables false
set_option linter.unusedSimpArgs false

/-- Decode of any circuit. -/
def DecAny (C : Int) (xs : List Int) (w : World) (e : Ending) (w' : World) : Prop := (C = 0 ∧ DecOut xs w e w') ∨ (C ≠ 0 ∧ DecBad C w e w')
/-- The cells of a circuit. -/
def ccells (x : Ci) : List Value := [.int .u8 x.k, .int .u8 x.f, .int .i64 x.b, .int .i64 x.l, .int .i64 x.w, .int .i64 x.c]
theorem ccells_one (x : Ci) : ∀ u ∈ ccells x, u.oneCell' = true := one6 _ _ _ _ _ _
def DecU (E : Int) (xs : List Int) (w : World) (e : Ending) (w' : World) : Prop := ∃ (Ag : Option Addr) (l : Nat), e = .returned (.tuple #[.slice Ag l l, .int .i64 E]) ∧ Below w.heap.size w w' ∧ (E ≠ 0 → l = 0) ∧ (E = 0 → l = xs.length ∧ WordsAt w' Ag xs)
theorem DecAny.uni {C : Int} {xs : List Int} {w : World} {e : Ending} {w' : World} (h : DecAny C xs w e w') : DecU C xs w e w' := by
  rcases h with ⟨rfl, g, he, hb, _, hr⟩ | ⟨hC, he, hb⟩
  · exact ⟨some ⟨g, 0, none⟩, xs.length, he, hb, fun h => absurd rfl h, fun _ => ⟨rfl, hr.words⟩⟩
  · exact ⟨none, 0, he, hb, fun _ => rfl, fun h => absurd h hC⟩
theorem most_le {x : Ci} (h : x.Good) : x.mostN ≤ 4294967295 := by
  unfold Ci.mostN
  split
  · have := pow_le32 (b := x.b.toNat) (by have := h.fits.b (by assumption); omega); omega
  · omega
theorem decE_lo {x : Ci} {N : Nat} {xs : List Int} {many : Int} (h : decE x N xs many = 0) (hx : ElemsOK xs) : ∀ k, k < xs.length → lo (xs.getD k 0) = xs.getD k 0 := by
  unfold decE at h
  by_cases h0 : x.code = 0
  · rw [if_pos h0] at h
    by_cases hN : N = x.outN
    · rw [if_pos hN] at h
      by_cases hm : many < 0 ∨ 256 < many
      · rw [if_pos hm] at h; omega
      · rw [if_neg hm] at h
        by_cases ha : allLe (many * (x.mostN : Int)) xs = true
        · intro k hk
          have h1 := hx.at_ hk
          have h2 : xs.getD k 0 ≤ many * (x.mostN : Int) := by
            unfold allLe at ha
            rw [List.all_eq_true] at ha
            rw [List.getD_eq_getElem?_getD, List.getElem?_eq_getElem hk]
            simpa using ha _ (List.getElem_mem hk)
          have h3 : many * (x.mostN : Int) ≤ 256 * 4294967295 := Int.mul_le_mul (by omega) (by have := most_le (Ci.good h0); omega) (by omega) (by omega)
          unfold lo
          omega
        · rw [if_neg ha] at h; omega
    · rw [if_neg hN] at h; omega
  · rw [if_neg h0] at h; exact absurd h h0
/-- Two circuits in a row. -/
def Pair (w : World) (g : Nat) (c X : Ci) : Prop := w.heap[g]? = some (.cells (ccells c ++ ccells X).toArray 29 (0, 0))
theorem Pair.at_ {w : World} {g : Nat} {c X : Ci} (h : Pair w g c X) (n : Nat) (hn : n < 2) : w.rangeAt g (n * 6) (ccells (if n = 0 then c else X)) := fun j v hj => by
  have h' : w.heap[g]? = some (.cells (ccells c ++ ccells X).toArray 29 (0, 0)) := h
  have hj6 : j < 6 := by have := (List.getElem?_eq_some_iff.1 hj).1; simpa [ccells] using this
  simp only [World.cell?, h']
  have hn2 : n = 0 ∨ n = 1 := by omega
  rcases hn2 with rfl | rfl
  · rw [if_pos rfl] at hj
    rw [← hj, List.getElem?_toArray, List.getElem?_append_left (by simp [ccells]; omega)]
    simp
  · rw [if_neg (by omega)] at hj
    rw [← hj, List.getElem?_toArray, List.getElem?_append_right (by simp [ccells])]
    simp [ccells]
def zero6 : List Value := [.int .u8 0, .int .u8 0, .int .i64 0, .int .i64 0, .int .i64 0, .int .i64 0]
def three (m : Int) (i : Nat) : Int := if i = 0 then m else if i = 1 then 3 else 256
end Go.Proofs.YtgdokfchfgnbbaaGreat
