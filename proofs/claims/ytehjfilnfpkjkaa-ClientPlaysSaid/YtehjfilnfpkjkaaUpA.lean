/-
  A message of one entry: copied.
-/
import Derived.Test.YtehjfilnfpkjkaaChecked
import Derived.WalkKit
import Derived.ProofKit
import Derived.Outline
import Derived.Lib.Hide
import Derived.Deep.QuietTactic
import Derived.OwnWalk
import Derived.Laws.MakeOwn
import Derived.Test.YtehjfilnfpkjkaaSegS
import Derived.Test.YtehjfilnfpkjkaaAppend
import Derived.Test.YtehjfilnfpkjkaaMid
import Derived.Test.YtehjfilnfpkjkaaFlow
import Derived.Test.YtehjfilnfpkjkaaIns
import Derived.Test.YtehjfilnfpkjkaaAppZ
import Derived.Deep.Cut
import Derived.Deep.DeepCutAuto
import Derived.Deep.CutBlock
import Derived.BigQuiet
import Derived.Laws.Cover3
namespace Go.Proofs.Ytehjfilnfpkjkaa
open Go.RowKit Flow
set_option linter.unusedVariables false
set_option linter.unusedSimpArgs false

theorem info_partsU {P : Program} {t : TypeId} {s n b : Nat} (h : (P.info? t).map (fun i => (i.zero.map (fun z => z.cells.size), i.size, i.bytes)) = some (some s, n, b)) : ∃ i z, P.info? t = some i ∧ i.zero = some z ∧ i.size = n ∧ i.bytes = b ∧ z.cells.size = s := by
  cases hi : P.info? t with
  | none => rw [hi] at h; cases h
  | some i =>
    rw [hi] at h
    cases hz : i.zero with
    | none => simp [hz] at h
    | some z =>
      simp [hz] at h
      exact ⟨i, z, rfl, hz, h.2.1, h.2.2, h.1⟩
theorem info_u8u : (Try.prog.info? 5).map (fun i => (i.zero.map (fun z => z.cells.size), i.size, i.bytes)) = some (some 1, 1, 1) := by kernel_rfl
theorem info_entu : (Try.prog.info? 44).map (fun i => (i.zero.map (fun z => z.cells.size), i.size, i.bytes)) = some (some 20, 20, 80) := by kernel_rfl
theorem results_cell1 {P : Program} {fn : Func} {tmps : Array Value} {w : World} {a : Nat} {t : TypeId} {b : Nat} {v : Value} (hr : fn.results = #[.cell a t]) (ha : tmps.getD a undef = .pointer (some ⟨b, 0, none⟩))
    (h : (loadVar t ⟨b, 0, none⟩).run P w = .ok v w) : (results fn tmps).run P w = .ok v w := by
  rw [Array.getD_eq_getD_getElem?] at ha
  simp [results, hr, asAddr, ha, h]
theorem put_noneU (a : Act) (v : Value) : a.put none v = a := rfl
theorem one_listU {l : List Value} (h : l.all Value.oneCell' = true) : ∀ u ∈ l, u.oneCell' = true := fun u hu => List.all_eq_true.1 h u hu
theorem owns_upU {w w' : World} {base n size : Nat} {e : TypeId} {v : Value} {xs : List Value} (h : w.ownsRow base e size v n xs) (hb : Below w.heap.size w w') : w'.ownsRow base e size v n xs := by
  refine h.kept (row := none) ⟨hb.os, hb.tape, hb.output, hb.size, fun k hk _ => hb.block k hk⟩ ?_
  cases v.ownBlock with
  | none => exact .inl rfl
  | some g => exact .inr (by simp)
def CloneOut (t : TypeId) (size n : Nat) (xs : List Value) (w : World) (e : Ending) (w' : World) : Prop := ∃ A2 c2, e = .returned (.slice A2 n c2) ∧ Below w.heap.size w w' ∧ w'.ownsRow w.heap.size t size (.slice A2 n c2) n xs
set_option maxRecDepth 20000 in
set_option maxHeartbeats 2000000 in
theorem bclone_news (B : Option Addr) (n cap : Nat) (xs : List Value) (h1 : ∀ u ∈ xs, u.oneCell' = true) (hn : n ≤ 1048576) (w : World) (h : News w B n cap 1 xs) :
    Calls Try.prog 21 #[.slice B n cap] w (CloneOut 5 1 n xs w) := by
  cases B with
  | none =>
    obtain ⟨rfl, rfl⟩ := h.none rfl
    obtain rfl : xs = [] := List.eq_nil_of_length_eq_zero (by rw [h.len, Nat.zero_mul])
    have heq : ∀ w : World, (binOp .eql 28 (.slice none 0 0) (.slice none 0 0)).run Try.prog w = .ok (.bool true) w := fun w => by
      simp only [binOp]
      simp [run_equal_slice_nil w 28 5 none 0 0 Try.underlying28]
    unfold CloneOut
    clear h
    go_enter Try.func21, Try.ntmps21
    go_wp2
    go_ret
    exact ⟨none, 0, rfl, Below.refl _ _, World.ownsRow_nil _ _ _ _⟩
  | some ad =>
    obtain ⟨i0, z0, hinf, hz0, hz1, hz2, hz3⟩ := info_partsU info_u8u
    have hown : (w.alloc (.cells #[] 5 (0, 0))).ownsRow w.heap.size 5 1 (.slice (some ⟨w.heap.size, 0, none⟩) 0 0) 0 [] := World.ownsRow_lit w #[] 0 (Nat.le_refl _) (by unfold maxLen; omega) rfl
    have hn2 := (h.up ((Below.refl w.heap.size w).alloc (Nat.le_refl _) (.cells #[] 5 (0, 0)))).lies ad rfl
    have hx := h.len
    replace hn2 := Lib.hid hn2
    replace hown := Lib.hid hown
    unfold CloneOut
    have heq : ∀ w : World, (binOp .eql 28 (.slice (some ad) n cap) (.slice none 0 0)).run Try.prog w = .ok (.bool false) w := fun w => by
      simp only [binOp]
      simp [run_equal_slice_nil w 28 5 (some ad) n cap Try.underlying28]
    have t1 : 0 + n ≤ maxLen := by unfold maxLen; omega
    have t2 : (0 + n) * 1 ≤ 140737488355328 := by omega
    clear h
    go_enter Try.func21, Try.ntmps21
    go_wp2_with (at_builtin; refine wpList_append_own _ rfl _ _ 28 rfl w.heap.size 5 i0 z0 1 1 Try.underlying28 hinf hz0 hz1 hz2 hz3 (by decide) _ _ _ rfl hown.out ad n cap xs rfl hx hn2.out h1 t1 t2 (by simp) ?_; intro v1 w6 hown6 hg6 hnn6; have hb6 := ((Below.refl w.heap.size w).alloc (Nat.le_refl _) (.cells #[] 5 (0, 0))).grown hg6 (by simp) (fun k hk => by cases hk; exact Nat.le_refl _); clear hg6)
    rw [List.nil_append, Nat.zero_add] at hown6
    obtain ⟨A2, c2, rfl⟩ := owns_slice hown6
    go_ret
    exact ⟨A2, c2, rfl, hb6, hown6⟩
set_option maxRecDepth 20000 in
set_option maxHeartbeats 2000000 in
theorem eclone_news (B : Option Addr) (n cap : Nat) (xs : List Value) (h1 : ∀ u ∈ xs, u.oneCell' = true) (hn : n ≤ 1048576) (w : World) (h : News w B n cap 20 xs) :
    Calls Try.prog 20 #[.slice B n cap] w (CloneOut 44 20 n xs w) := by
  cases B with
  | none =>
    obtain ⟨rfl, rfl⟩ := h.none rfl
    obtain rfl : xs = [] := List.eq_nil_of_length_eq_zero (by rw [h.len, Nat.zero_mul])
    have heq : ∀ w : World, (binOp .eql 25 (.slice none 0 0) (.slice none 0 0)).run Try.prog w = .ok (.bool true) w := fun w => by
      simp only [binOp]
      simp [run_equal_slice_nil w 25 44 none 0 0 Try.underlying25]
    unfold CloneOut
    clear h
    go_enter Try.func20, Try.ntmps20
    go_wp2
    go_ret
    exact ⟨none, 0, rfl, Below.refl _ _, World.ownsRow_nil _ _ _ _⟩
  | some ad =>
    obtain ⟨i0, z0, hinf, hz0, hz1, hz2, hz3⟩ := info_partsU info_entu
    have hown : (w.alloc (.cells #[] 44 (0, 0))).ownsRow w.heap.size 44 20 (.slice (some ⟨w.heap.size, 0, none⟩) 0 0) 0 [] := World.ownsRow_lit w #[] 0 (Nat.le_refl _) (by unfold maxLen; omega) rfl
    have hn2 := (h.up ((Below.refl w.heap.size w).alloc (Nat.le_refl _) (.cells #[] 44 (0, 0)))).lies ad rfl
    have hx := h.len
    replace hn2 := Lib.hid hn2
    replace hown := Lib.hid hown
    unfold CloneOut
    have heq : ∀ w : World, (binOp .eql 25 (.slice (some ad) n cap) (.slice none 0 0)).run Try.prog w = .ok (.bool false) w := fun w => by
      simp only [binOp]
      simp [run_equal_slice_nil w 25 44 (some ad) n cap Try.underlying25]
    have t1 : 0 + n ≤ maxLen := by unfold maxLen; omega
    have t2 : (0 + n) * 80 ≤ 140737488355328 := by omega
    clear h
    go_enter Try.func20, Try.ntmps20
    go_wp2_with (at_builtin; refine wpList_append_own _ rfl _ _ 25 rfl w.heap.size 44 i0 z0 20 80 Try.underlying25 hinf hz0 hz1 hz2 hz3 (by decide) _ _ _ rfl hown.out ad n cap xs rfl hx hn2.out h1 t1 t2 (by simp) ?_; intro v1 w6 hown6 hg6 hnn6; have hb6 := ((Below.refl w.heap.size w).alloc (Nat.le_refl _) (.cells #[] 44 (0, 0))).grown hg6 (by simp) (fun k hk => by cases hk; exact Nat.le_refl _); clear hg6)
    rw [List.nil_append, Nat.zero_add] at hown6
    obtain ⟨A2, c2, rfl⟩ := owns_slice hown6
    go_ret
    exact ⟨A2, c2, rfl, hb6, hown6⟩
/-- An entry's cells. -/
def ent20 (id : List Int) (t : Int) (P S : Value) : List Value := id.map (Value.int .u8) ++ [.int .u64 t, P, S, .int .i64 0]
theorem ent20_len {id : List Int} {t : Int} {P S : Value} (h : id.length = 16) : (ent20 id t P S).length = 20 := by
  unfold ent20
  rw [List.length_append, List.length_map, h]
  rfl
theorem ent20_at {id : List Int} {t : Int} {P S : Value} (h : id.length = 16) : (ent20 id t P S)[16]? = some (.int .u64 t) ∧ (ent20 id t P S)[17]? = some P ∧ (ent20 id t P S)[18]? = some S ∧ (ent20 id t P S)[19]? = some (.int .i64 0) := by
  unfold ent20
  have hl : (id.map (Value.int .u8)).length = 16 := by rw [List.length_map, h]
  refine ⟨?_, ?_, ?_, ?_⟩ <;> rw [List.getElem?_append_right (by omega), hl] <;> rfl
theorem ent20_one {id : List Int} {t : Int} {a b : Option Addr} {n c m d : Nat} : ∀ u ∈ ent20 id t (.slice a n c) (.slice b m d), u.oneCell' = true := fun u hu => by
  unfold ent20 at hu
  rcases List.mem_append.1 hu with h | h
  · obtain ⟨x, _, rfl⟩ := List.mem_map.1 h
    rfl
  · simp only [List.mem_cons, List.not_mem_nil, or_false] at h
    rcases h with rfl | rfl | rfl | rfl <;> rfl
def zid : List Int := [0, 0, 0, 0, 0, 0, 0, 0, 0, 0, 0, 0, 0, 0, 0, 0]
def entz : List Value := ent20 zid 0 (.slice none 0 0) (.slice none 0 0)
/-- A message that uploads one entry. -/
def up22 (E : Value) : List Value := [.int .u8 1, .int .u64 0, .int .u64 0, .int .i64 0, .int .u8 0, .int .u8 0, .int .u8 0, .int .u8 0, .int .u8 0, .int .u8 0, .int .u8 0, .int .u8 0, .int .u8 0, .int .u8 0, .int .u8 0, .int .u8 0, .int .u8 0, .int .u8 0, .int .u8 0, .int .u8 0, .int .i64 0, E]
def zup : List Value := [.int .u8 0, .int .u64 0, .int .u64 0, .int .i64 0, .int .u8 0, .int .u8 0, .int .u8 0, .int .u8 0, .int .u8 0, .int .u8 0, .int .u8 0, .int .u8 0, .int .u8 0, .int .u8 0, .int .u8 0, .int .u8 0, .int .u8 0, .int .u8 0, .int .u8 0, .int .u8 0, .int .i64 0, .slice none 0 0]
theorem up22_one {a : Option Addr} {n c : Nat} : ∀ u ∈ up22 (.slice a n c), u.oneCell' = true := one_listU rfl
theorem up_cell {w : World} {q : Nat} {E : Value} {t : TypeId} (h : w.heap[q]? = some (.cells (up22 E).toArray t (0, 0))) : w.cell? ⟨q, 21, none⟩ = some E ∧ w.frozen? ⟨q, 21, none⟩ = false := by
  have g := At0.of_block h 21 E rfl
  simp only [Nat.zero_add] at g
  exact ⟨g, by simp [World.frozen?, h]⟩
/-- Where the copy of an entry lies, and its texts. -/
structure Mg where
  g : Nat
  c : Nat
  PA : Option Addr
  pc : Nat
  SA : Option Addr
  sc : Nat
def Mg.ent (m : Mg) (id : List Int) (t : Int) (ps ss : List Int) : List Value := ent20 id t (.slice m.PA ps.length m.pc) (.slice m.SA ss.length m.sc)
def Mg.val (m : Mg) : Value := .slice (some ⟨m.g, 0, none⟩) 1 m.c
structure MgOk (B : Nat) (w : World) (m : Mg) (id : List Int) (t : Int) (ps ss : List Int) : Prop where
  row : w.ownsRow B 44 20 m.val 1 (m.ent id t ps ss)
  P : w.ownsRow B 5 1 (.slice m.PA ps.length m.pc) ps.length (ps.map (Value.int .u8))
  S : w.ownsRow B 5 1 (.slice m.SA ss.length m.sc) ss.length (ss.map (Value.int .u8))
  PS : ∀ b, (Value.slice m.PA ps.length m.pc).ownBlock = some b → (Value.slice m.SA ss.length m.sc).ownBlock ≠ some b
theorem MgOk.up {B : Nat} {w w' : World} {m : Mg} {id : List Int} {t : Int} {ps ss : List Int} (h : MgOk B w m id t ps ss) (hb : Below w.heap.size w w') : MgOk B w' m id t ps ss :=
  ⟨owns_upU h.row hb, owns_upU h.P hb, owns_upU h.S hb, h.PS⟩
theorem owns_ent {w : World} {B g c : Nat} {xs : List Value} (h : w.ownsRow B 44 20 (.slice (some ⟨g, 0, none⟩) 1 c) 1 xs) : w.rangeAt g 0 xs := fun j u hj => by
  have := h.cells (g := g) rfl j u hj
  rwa [Addr.add_mid] at this
theorem owns_newsU {w : World} {B n c size : Nat} {t : TypeId} {a : Option Addr} {xs : List Value} (h : w.ownsRow B t size (.slice a n c) n xs) : News w a n c size xs := by
  refine ⟨h.1, fun e => ?_, fun ad e j u hj => ?_⟩
  · rcases h.2 with ⟨e2, h0⟩ | ⟨g, cap, cur, e2, _⟩
    · cases e2
      exact ⟨h0, rfl⟩
    · rw [e] at e2
      cases e2
  · subst e
    rcases h.2 with ⟨e2, h0⟩ | ⟨g, cap, cur, e2, _⟩
    · cases e2
    · cases e2
      exact h.cells (g := g) rfl j u hj
end Go.Proofs.Ytehjfilnfpkjkaa
