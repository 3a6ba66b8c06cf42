/-
  The reader of bytes: a reading.
-/
import Derived.Test.YtdjgkojcckopaaaRdD
namespace Go.Proofs.Ytdjgkojcckopaaa
open Go.RowKit Flow
set_option linter.unusedVariables false
set_option linter.unusedSimpArgs false

/-- What a take leaves: it has come to its end, or a reading that can't go on has ended it. -/
def TakeOut (n : Nat) (S : Int → Nat → World → Prop) (e : Ending) (w2 : World) : Prop :=
  w2.heap[n]? = some (.cells #[.int .i64 0] 34 (0, 0)) ∧ w2.heap[n + 2]? = some (.cells #[.pointer (some ⟨n + 1, 0, none⟩)] 62 (0, 0)) ∧
    ((e = .returned (.tuple #[]) ∧ ∃ A k c, Rd w2 (n + 1) (n + 3) (.slice A k c) false 0 ∧ S 0 k w2) ∨ (e = .panicked [failing (n + 1)] ∧ ∃ c, Rd w2 (n + 1) (n + 3) (.slice none 0 0) true c ∧ S c 0 w2))
/-- What a reading answers. -/
def ReadOut (w : World) (S : Int → Nat → World → Prop) (e : Ending) (w' : World) : Prop := ∃ c k w2, S c k w2 ∧ Below w.heap.size w2 w' ∧ (∃ err, Rd w' (w.heap.size + 1) (w.heap.size + 3) (.slice none 0 0) true err) ∧ e = .returned (.int .i64 (ended c k))
/-- What a take is given. -/
structure TakeIn (n : Nat) (v : Value) (w w1 : World) : Prop where
  hb : Below n w w1
  h0 : w1.heap[n]? = some (.cells #[.int .i64 0] 34 (0, 0))
  h2 : w1.heap[n + 2]? = some (.cells #[.pointer (some ⟨n + 1, 0, none⟩)] 62 (0, 0))
  hR : Rd w1 (n + 1) (n + 3) v false 0
  hz : w1.heap.size = n + 4
theorem is_func (F : FuncId) (caps : Array Value) (w : World) : (binOp .eql 39 (.func (.func F) #[] caps) .nilFunc).run Try.prog w = .ok (.bool false) w := by
  have h : ∀ d : Nat, (Op.equalIn (d + 1) 39 (.func (.func F) #[] caps) .nilFunc).run Try.prog w = .ok false w := fun d => by
    simp [Op.equalIn, run_underlying Try.underlying39]
  simp only [binOp]
  simp [Op.equal, Op.maxDepth, h 9999]
theorem read_gen (F : FuncId) (hen : ∀ (args : Array Value) (w : World), (callFunc F args).run Try.prog w = .ok (.enter F args) w) (caps : Array Value) (A : Option Addr) (m cp : Nat) (S : Int → Nat → World → Prop) (w : World)
    (hT : ∀ w1, TakeIn w.heap.size (.slice A m cp) w w1 → Calls Try.prog F (#[.pointer (some ⟨w.heap.size + 3, 0, none⟩)] ++ caps) w1 (TakeOut w.heap.size S)) :
    Calls Try.prog 10 #[.slice A m cp, .func (.func F) #[] caps] w (ReadOut w S) := by
  have hmf : ∀ (fn : Fn) (first cap : Array Value) (w : World), (Instr.makeFunc fn first cap).run Try.prog w = .ok (.func fn first cap) w := fun _ _ _ _ => rfl
  replace hT := Lib.hid hT
  have hnf := is_func F caps
  go_enter_defers Try.func10, Try.ntmps10
  go_wp2_with fail
  refine (hT.out _ ?_).mono ?_
  · refine ⟨(((((Below.refl _ _).alloc (Nat.le_refl _) _).alloc (by simp) _).alloc (by simp; omega) _).alloc (by simp; omega) _), ?_, ?_, ⟨?_, ?_, by omega⟩, by simp⟩
    · exact alloc_keeps (alloc_keeps (alloc_keeps (alloc_at rfl)))
    · exact alloc_keeps (alloc_at (by simp))
    · exact alloc_at (by simp)
    · exact alloc_keeps (alloc_keeps (alloc_at (by simp)))
  rintro e w2 ⟨k0, k2, ⟨rfl, A2, k, c2, hR2, hS2⟩ | ⟨rfl, c, hR2, hS2⟩⟩
  · have e0 : w2.cell? ⟨w.heap.size, 0, none⟩ = some (.int .i64 0) := by simp [World.cell?, k0]
    have e1 : w2.frozen? ⟨w.heap.size, 0, none⟩ = false := by simp [World.frozen?, k0]
    go_wp2_with fail
    have hn := lt_of_get k0
    have k0' : (w2.setCell ⟨w.heap.size, 0, none⟩ (.int .i64 0)).heap[w.heap.size]? = some (.cells #[.int .i64 0] 34 (0, 0)) := (store1 k0 (o := 0) (v := .int .i64 0)).trans rfl
    have k2' : (w2.setCell ⟨w.heap.size, 0, none⟩ (.int .i64 0)).heap[w.heap.size + 2]? = some (.cells #[.pointer (some ⟨w.heap.size + 1, 0, none⟩)] 62 (0, 0)) := store_far k2 (by show w.heap.size + 2 ≠ w.heap.size; omega)
    have hR2' : Rd (w2.setCell ⟨w.heap.size, 0, none⟩ (.int .i64 0)) (w.heap.size + 1) (w.heap.size + 3) (.slice A2 k c2) false 0 := ⟨store_far hR2.hr (by show w.heap.size + 3 ≠ w.heap.size; omega), store_far hR2.ho (by show w.heap.size + 1 ≠ w.heap.size; omega), hR2.hne⟩
    have hb2 : Below w.heap.size w2 (w2.setCell ⟨w.heap.size, 0, none⟩ (.int .i64 0)) := ((Below.refl w2.heap.size w2).mono (Nat.le_of_lt hn)).setCell (p := ⟨w.heap.size, 0, none⟩) (Nat.le_refl _) _
    refine leaves_cons (f := 36) (args := #[.pointer (some ⟨w.heap.size + 2, 0, none⟩), .pointer (some ⟨w.heap.size, 0, none⟩)]) (by simp) (by simp [go_sem]) ?_
    refine (door_ret w.heap.size A2 k c2 _ k0' k2' hR2').mono ?_
    rintro e u' w3 ⟨rfl, rfl, hb3, h03, hE3⟩
    have e3 : w3.cell? ⟨w.heap.size, 0, none⟩ = some (.int .i64 (ended 0 k)) := by simp [World.cell?, h03]
    exact ⟨.int .i64 (ended 0 k), by simp [results, Try.results10, go_sem, e3], ⟨0, k, w2, hS2, hb2.trans hb3, hE3, rfl⟩⟩
  · have hn := lt_of_get k0
    go_wp2_with fail
    refine leaves_cons (f := 36) (args := #[.pointer (some ⟨w.heap.size + 2, 0, none⟩), .pointer (some ⟨w.heap.size, 0, none⟩)]) (by simp) (by simp [go_sem]) ?_
    refine (door_fail w.heap.size c _ k0 k2 hR2).mono ?_
    rintro e u' w3 ⟨rfl, rfl, hb3, h03, hE3⟩
    have e3 : w3.cell? ⟨w.heap.size, 0, none⟩ = some (.int .i64 c) := by simp [World.cell?, h03]
    have hee : ended c 0 = c := by unfold ended; rw [if_neg (fun h => absurd h.2 (Nat.lt_irrefl _))]
    exact ⟨.int .i64 c, by simp [results, Try.results10, go_sem, e3], ⟨c, 0, w2, hS2, hb3, hE3, by rw [hee]⟩⟩
end Go.Proofs.Ytdjgkojcckopaaa
