/-
  A message of one entry: copied.
-/
import Derived.Test.YtmicnkiadfihgaaChecked
import Derived.WalkKit
import Derived.ProofKit
import Derived.Outline
import Derived.Lib.Hide
import Derived.Deep.QuietTactic
import Derived.OwnWalk
import Derived.Laws.MakeOwn
import Derived.Test.YtmicnkiadfihgaaSegS
import Derived.Test.YtmicnkiadfihgaaAppend
import Derived.Test.YtmicnkiadfihgaaMid
import Derived.Test.YtmicnkiadfihgaaFlow
import Derived.Test.YtmicnkiadfihgaaIns
import Derived.Test.YtmicnkiadfihgaaAppZ
import Derived.Deep.Cut
import Derived.Deep.DeepCutAuto
import Derived.Deep.CutBlock
import Derived.BigQuiet
import Derived.Laws.Cover3
namespace Go.Proofs.Ytmicnkiadfihgaa
open Go.RowKit Flow
set_option linter.unusedVariables false
set_option linter.unusedSimpArgs false

theorem info_partsU {P : Program} {t : TypeId} {s n b : Nat} (h : (P.info? t).map (fun i => (i.zero.map (fun z => z.cells.size), i.size, i.bytes)) = some (some s, n, b)) : ∃ i z, P.info? t = some i ∧ i.zero = some z ∧ i.size = n ∧ i.bytes = b ∧ z.cells.size = s := by
  cases hi : P.info? t with
  | none => rw [hi] at h; cases h
  | some i =>
    rw [hi] at h
    cases hz : i.zero with
    | none => simp [hz] at h
    | some z =>
      simp [hz] at h
      exact ⟨i, z, rfl, hz, h.2.1, h.2.2, h.1⟩
theorem info_u8u : (Try.prog.info? 5).map (fun i => (i.zero.map (fun z => z.cells.size), i.size, i.bytes)) = some (some 1, 1, 1) := by kernel_rfl
theorem results_cell1 {P : Program} {fn : Func} {tmps : Array Value} {w : World} {a : Nat} {t : TypeId} {b : Nat} {v : Value} (hr : fn.results = #[.cell a t]) (ha : tmps.getD a undef = .pointer (some ⟨b, 0, none⟩))
    (h : (loadVar t ⟨b, 0, none⟩).run P w = .ok v w) : (results fn tmps).run P w = .ok v w := by
  rw [Array.getD_eq_getD_getElem?] at ha
  simp [results, hr, asAddr, ha, h]
theorem put_noneU (a : Act) (v : Value) : a.put none v = a := rfl
theorem one_listU {l : List Value} (h : l.all Value.oneCell' = true) : ∀ u ∈ l, u.oneCell' = true := fun u hu => List.all_eq_true.1 h u hu
theorem owns_upU {w w' : World} {base n size : Nat} {e : TypeId} {v : Value} {xs : List Value} (h : w.ownsRow base e size v n xs) (hb : Below w.heap.size w w') : w'.ownsRow base e size v n xs := by
  refine h.kept (row := none) ⟨hb.os, hb.tape, hb.output, hb.size, fun k hk _ => hb.block k hk⟩ ?_
  cases v.ownBlock with
  | none => exact .inl rfl
  | some g => exact .inr (by simp)
def CloneOut (t : TypeId) (size n : Nat) (xs : List Value) (w : World) (e : Ending) (w' : World) : Prop := ∃ A2 c2, e = .returned (.slice A2 n c2) ∧ Below w.heap.size w w' ∧ w'.ownsRow w.heap.size t size (.slice A2 n c2) n xs
/-- An entry's cells. -/
def ent20 (id : List Int) (t : Int) (P S : Value) : List Value := id.map (Value.int .u8) ++ [.int .u64 t, P, S, .int .i64 0]
theorem ent20_len {id : List Int} {t : Int} {P S : Value} (h : id.length = 16) : (ent20 id t P S).length = 20 := by
  unfold ent20
  rw [List.length_append, List.length_map, h]
  rfl
theorem ent20_at {id : List Int} {t : Int} {P S : Value} (h : id.length = 16) : (ent20 id t P S)[16]? = some (.int .u64 t) ∧ (ent20 id t P S)[17]? = some P ∧ (ent20 id t P S)[18]? = some S ∧ (ent20 id t P S)[19]? = some (.int .i64 0) := by
  unfold ent20
  have hl : (id.map (Value.int .u8)).length = 16 := by rw [List.length_map, h]
  refine ⟨?_, ?_, ?_, ?_⟩ <;> rw [List.getElem?_append_right (by omega), hl] <;> rfl
theorem ent20_one {id : List Int} {t : Int} {a b : Option Addr} {n c m d : Nat} : ∀ u ∈ ent20 id t (.slice a n c) (.slice b m d), u.oneCell' = true := fun u hu => by
  unfold ent20 at hu
  rcases List.mem_append.1 hu with h | h
  · obtain ⟨x, _, rfl⟩ := List.mem_map.1 h
    rfl
  · simp only [List.mem_cons, List.not_mem_nil, or_false] at h
    rcases h with rfl | rfl | rfl | rfl <;> rfl
def zid : List Int := [0, 0, 0, 0, 0, 0, 0, 0, 0, 0, 0, 0, 0, 0, 0, 0]
def entz : List Value := ent20 zid 0 (.slice none 0 0) (.slice none 0 0)
/-- A message that uploads one entry. -/
def up22 (E : Value) : List Value := [.int .u8 1, .int .u64 0, .int .u64 0, .int .i64 0, .int .u8 0, .int .u8 0, .int .u8 0, .int .u8 0, .int .u8 0, .int .u8 0, .int .u8 0, .int .u8 0, .int .u8 0, .int .u8 0, .int .u8 0, .int .u8 0, .int .u8 0, .int .u8 0, .int .u8 0, .int .u8 0, .int .i64 0, E]
def zup : List Value := [.int .u8 0, .int .u64 0, .int .u64 0, .int .i64 0, .int .u8 0, .int .u8 0, .int .u8 0, .int .u8 0, .int .u8 0, .int .u8 0, .int .u8 0, .int .u8 0, .int .u8 0, .int .u8 0, .int .u8 0, .int .u8 0, .int .u8 0, .int .u8 0, .int .u8 0, .int .u8 0, .int .i64 0, .slice none 0 0]
theorem up22_one {a : Option Addr} {n c : Nat} : ∀ u ∈ up22 (.slice a n c), u.oneCell' = true := one_listU rfl
theorem up_cell {w : World} {q : Nat} {E : Value} {t : TypeId} (h : w.heap[q]? = some (.cells (up22 E).toArray t (0, 0))) : w.cell? ⟨q, 21, none⟩ = some E ∧ w.frozen? ⟨q, 21, none⟩ = false := by
  have g := At0.of_block h 21 E rfl
  simp only [Nat.zero_add] at g
  exact ⟨g, by simp [World.frozen?, h]⟩
/-- Where the copy of an entry lies, and its texts. -/
structure Mg where
  g : Nat
  c : Nat
  PA : Option Addr
  pc : Nat
  SA : Option Addr
  sc : Nat
def Mg.ent (m : Mg) (id : List Int) (t : Int) (ps ss : List Int) : List Value := ent20 id t (.slice m.PA ps.length m.pc) (.slice m.SA ss.length m.sc)
def Mg.val (m : Mg) : Value := .slice (some ⟨m.g, 0, none⟩) 1 m.c
theorem owns_newsU {w : World} {B n c size : Nat} {t : TypeId} {a : Option Addr} {xs : List Value} (h : w.ownsRow B t size (.slice a n c) n xs) : News w a n c size xs := by
  refine ⟨h.1, fun e => ?_, fun ad e j u hj => ?_⟩
  · rcases h.2 with ⟨e2, h0⟩ | ⟨g, cap, cur, e2, _⟩
    · cases e2
      exact ⟨h0, rfl⟩
    · rw [e] at e2
      cases e2
  · subst e
    rcases h.2 with ⟨e2, h0⟩ | ⟨g, cap, cur, e2, _⟩
    · cases e2
    · cases e2
      exact h.cells (g := g) rfl j u hj
end Go.Proofs.Ytmicnkiadfihgaa
