/-
  Letters on their way: one comes, is lost, is looked at.
-/
import Derived.Test.YtjkbinpgclnedaaNetC
namespace Go.Proofs.Ytjkbinpgclnedaa
open Go.RowKit Flow
set_option linter.unusedVariables false

theorem lcells_get : ∀ (L : List (Int × Int × Value)) (i : Nat) (f t : Int) (v : Value), L[i]? = some (f, t, v) → (lcells L)[i * 3]? = some (.int .i64 f) ∧ (lcells L)[i * 3 + 1]? = some (.int .i64 t) ∧ (lcells L)[i * 3 + 2]? = some v
  | [], i, f, t, v, h => by simp at h
  | (f', t', v') :: r, 0, f, t, v, h => by
    simp at h
    obtain ⟨rfl, rfl, rfl⟩ := h
    exact ⟨rfl, rfl, rfl⟩
  | (f', t', v') :: r, i + 1, f, t, v, h => by
    have := lcells_get r i f t v (by simpa using h)
    rw [show (i + 1) * 3 = i * 3 + 1 + 1 + 1 by omega]
    simpa [lcells] using this
theorem owns_letter {w : World} {base g n cap i : Nat} {L : List (Int × Int × Value)} {f t : Int} {v : Value} (h : w.ownsRow base 32 3 (.slice (some ⟨g, 0, none⟩) n cap) n (lcells L)) (hi : L[i]? = some (f, t, v)) :
    w.cell? ⟨g, i * 3, none⟩ = some (.int .i64 f) ∧ w.cell? ⟨g, i * 3 + 1, none⟩ = some (.int .i64 t) ∧ w.cell? ⟨g, i * 3 + 2, none⟩ = some v := by
  obtain ⟨h0, h1, h2⟩ := lcells_get L i f t v hi
  have hl := h.1
  have k0 := (List.getElem?_eq_some_iff.1 h2).1
  exact ⟨(h.cellAt _ (by omega)).trans h0, (h.cellAt _ (by omega)).trans h1, (h.cellAt _ (by omega)).trans h2⟩
/-- All letters' texts are slices. -/
def Slices (L : List (Int × Int × Value)) : Prop := ∀ x ∈ L, ∃ a n c, x.2.2 = .slice a n c
theorem Slices.one {L : List (Int × Int × Value)} (h : Slices L) : ∀ u ∈ lcells L, u.oneCell' = true := by
  induction L with
  | nil => intro u hu; cases hu
  | cons x r ih =>
    obtain ⟨f, t, v⟩ := x
    intro u hu
    obtain ⟨a, n, c, e⟩ := h _ List.mem_cons_self
    simp only at e
    subst e
    simp only [lcells, List.mem_cons] at hu
    rcases hu with rfl | rfl | rfl | hu
    · rfl
    · rfl
    · rfl
    · exact ih (fun y hy => h y (List.mem_cons_of_mem _ hy)) u hu
theorem Slices.erase {L : List (Int × Int × Value)} (h : Slices L) (i : Nat) : Slices (L.eraseIdx i) := fun x hx => h x (List.mem_of_mem_eraseIdx hx)
theorem Moved.of_gone {p g : Nat} {w w' : World} (h : Gone (some g) w w') : Moved p (some g) w w' := ⟨h.os, h.tape, h.output, h.size, fun k hk _ hg => h.block k hk hg⟩
theorem Moved.setNew {p b o : Nat} {go : Option Nat} {w w' : World} (h : Moved p go w w') (hb : w.heap.size ≤ b) (v : Value) : Moved p go w (w'.setCell ⟨b, o, none⟩ v) :=
  ⟨h.os, h.tape, h.output, by simp [World.setCell]; exact h.size, fun k hk hne hg => (Below.heap_setCell _ _ _ _ (by show k ≠ b; omega)).trans (h.block k hk hne hg)⟩
theorem owns_set {w : World} {base n size : Nat} {e : TypeId} {v : Value} {xs : List Value} (h : w.ownsRow base e size v n xs) {b o : Nat} (hb : ∀ g, v.ownBlock = some g → g ≠ b) (u : Value) : (w.setCell ⟨b, o, none⟩ u).ownsRow base e size v n xs := by
  refine h.kept ⟨rfl, rfl, rfl, by simp [World.setCell], fun k hk hne => Below.heap_setCell _ _ _ _ (fun e => hne (by rw [e]))⟩ (row := some b) ?_
  cases hv : v.ownBlock with
  | none => exact .inl rfl
  | some g => exact .inr (fun e => by cases e; exact hb _ hv rfl)
set_option maxHeartbeats 4000000 in
theorem take_any (p g cap i : Nat) (L : List (Int × Int × Value)) (s c l f t : Int) (a : Option Addr) (nb cb : Nat) (hi : L[i]? = some (f, t, .slice a nb cb)) (hL : L.length ≤ 5000) (hS : Slices L) (w : World)
    (hp : w.heap[p]? = some (.cells #[.slice (some ⟨g, 0, none⟩) L.length cap, .int .i64 s, .int .i64 c, .int .i64 l] 46 (0, 0))) (hown : w.ownsRow (p + 1) 32 3 (.slice (some ⟨g, 0, none⟩) L.length cap) L.length (lcells L)) :
    Calls Try.prog 17 #[.pointer (some ⟨p, 0, none⟩), .int .i64 i] w fun e w' => e = .returned (.agg #[.int .i64 f, .int .i64 t, .slice a nb cb]) ∧ Moved p (some g) w w' ∧
      w'.heap[p]? = some (.cells #[.slice (some ⟨g, 0, none⟩) (L.length - 1) cap, .int .i64 s, .int .i64 c, .int .i64 l] 46 (0, 0)) ∧ w'.ownsRow (p + 1) 32 3 (.slice (some ⟨g, 0, none⟩) (L.length - 1) cap) (L.length - 1) (lcells (L.eraseIdx i)) := by
  have hil := (List.getElem?_eq_some_iff.1 hi).1
  have hdel := Lib.hid (fun w h => delete_any (p + 1) g cap i L hil hL hS.one w h)
  obtain ⟨b0, b1, b2⟩ := owns_letter hown hi
  have hgp := (hown.lt g rfl)
  have i0 : (0 : Int) ≤ (i : Int) := by omega
  have i1 : (i : Int) < (L.length : Int) := by omega
  have i2 : (i : Int) + 1 ≤ 5000 := by omega
  have i3 : (i : Int) + 1 ≥ 0 := by omega
  obtain ⟨c0, c1, c2, c3, f0, f1, f2, f3⟩ := blkP hp
  have hlp := lt_of_get hp
  replace hown := Lib.hid hown
  generalize hn : L.length = n at *
  replace hn := Lib.hid hn
  go_enter Try.func17, Try.ntmps17
  go_wp2_with fail
  have hz := ((Below.refl w.heap.size w).alloc (Nat.le_refl _) (.cells #[.int .i64 0, .int .i64 0, .slice none 0 0] 32 (0, 0))).alloc (by simp) (.cells #[.int .i64 f, .int .i64 t, .slice a nb cb] 32 (0, 0))
  refine (hdel.out _ ((hown.out.alloc _).alloc _)).mono ?_
  rintro e w2 ⟨rfl, hG, hown2⟩
  clear c0 c1 c2 c3 f0 f1 f2 f3 b0 b1 b2
  have hpg : some p ≠ some g := fun e => by cases e; omega
  have kp := hG.keeps (alloc_keeps (alloc_keeps hp)) hpg
  have k4 := hG.keeps (alloc_keeps (alloc_at (w := w) rfl)) (fun e => by cases e; omega)
  have k5 := hG.keeps (alloc_at (w := w.alloc (.cells #[.int .i64 0, .int .i64 0, .slice none 0 0] 32 (0, 0))) (k := w.heap.size + 1) (by simp)) (fun e => by cases e; omega)
  have hM : Moved p (some g) w w2 := (Moved.of_below hz).trans (Moved.of_gone hG) (.inl rfl)
  obtain ⟨c0, c1, c2, c3, f0, f1, f2, f3⟩ := blkP kp
  obtain ⟨d0, d1, d2, g0, g1, g2⟩ := blkN k4
  obtain ⟨e0, e1, e2, _⟩ := blkN k5
  have l4 := lt_of_get k4
  have l5 := lt_of_get k5
  have n1 : p ≠ w.heap.size := by omega
  have n2 : p ≠ w.heap.size + 1 := by omega
  clear hG hz hown hdel
  go_wp2
  have q4 := store1 (store1 (store1 (store_far (a := ⟨p, 0, none⟩) (v := .slice (some ⟨g, 0, none⟩) (n - 1) cap) k4 (Ne.symm n1)) (o := 0) (v := .int .i64 f)) (o := 1) (v := .int .i64 t)) (o := 2) (v := .slice a nb cb)
  obtain ⟨r0, r1, r2, _⟩ := blkN (u := .int .i64 f) (v := .int .i64 t) (x := .slice a nb cb) (q4.trans rfl)
  have qp := store_far (a := ⟨w.heap.size, 2, none⟩) (v := .slice a nb cb) (store_far (a := ⟨w.heap.size, 1, none⟩) (v := .int .i64 t) (store_far (a := ⟨w.heap.size, 0, none⟩) (v := .int .i64 f) ((store1 kp (o := 0) (v := .slice (some ⟨g, 0, none⟩) (n - 1) cap)).trans rfl) n1) n1) n1
  have hgz : ∀ g', (Value.slice (some ⟨g, 0, none⟩) (n - 1) cap).ownBlock = some g' → g' ≠ w.heap.size := fun g' e => by cases e; show g ≠ w.heap.size; omega
  have hrow := owns_set (owns_set (owns_set (ownsRow_setCell_below hown2 (a := ⟨p, 0, none⟩) (Nat.lt_succ_self p) (.slice (some ⟨g, 0, none⟩) (n - 1) cap)) (o := 0) hgz (.int .i64 f)) (o := 1) hgz (.int .i64 t)) (o := 2) hgz (.slice a nb cb)
  exact bodyPost_ret (v := .agg #[.int .i64 f, .int .i64 t, .slice a nb cb]) (by simp [results, Try.results17, go_sem, r0, r1, r2]) rfl
    ⟨rfl, (((hM.set _).setNew (Nat.le_refl _) _).setNew (Nat.le_refl _) _).setNew (Nat.le_refl _) _, qp, hrow⟩
set_option maxHeartbeats 4000000 in
theorem drop_any (p g cap i : Nat) (L : List (Int × Int × Value)) (s c l f t : Int) (a : Option Addr) (nb cb : Nat) (hi : L[i]? = some (f, t, .slice a nb cb)) (hL : L.length ≤ 5000) (l0 : 0 ≤ l) (l1 : l < 1000000) (hS : Slices L) (w : World)
    (hp : w.heap[p]? = some (.cells #[.slice (some ⟨g, 0, none⟩) L.length cap, .int .i64 s, .int .i64 c, .int .i64 l] 46 (0, 0))) (hown : w.ownsRow (p + 1) 32 3 (.slice (some ⟨g, 0, none⟩) L.length cap) L.length (lcells L)) :
    Calls Try.prog 9 #[.pointer (some ⟨p, 0, none⟩), .int .i64 i] w fun e w' => e = .returned (.bool true) ∧ Moved p (some g) w w' ∧
      w'.heap[p]? = some (.cells #[.slice (some ⟨g, 0, none⟩) (L.length - 1) cap, .int .i64 s, .int .i64 c, .int .i64 (l + 1)] 46 (0, 0)) ∧ w'.ownsRow (p + 1) 32 3 (.slice (some ⟨g, 0, none⟩) (L.length - 1) cap) (L.length - 1) (lcells (L.eraseIdx i)) := by
  have hil := (List.getElem?_eq_some_iff.1 hi).1
  have hhas := Lib.hid (fun w hp => nhas_in p (some ⟨g, 0, none⟩) L.length cap s c l i hil hL w hp)
  have htk := Lib.hid (fun w hp hown => take_any p g cap i L s c (l + 1) f t a nb cb hi hL hS w hp hown)
  replace hown := Lib.hid hown
  generalize hn : L.length = n at *
  replace hn := Lib.hid hn
  go_enter Try.func9, Try.ntmps9
  go_wp2_with fail
  refine call_then (hhas.out _ hp) ?_
  intro w2 hb
  replace hp := keeps hb hp
  replace hown := Lib.hid (hown.out.kept ⟨hb.os, hb.tape, hb.output, hb.size, fun k hk _ => hb.block k hk⟩ (row := none) (by simp [Value.ownBlock]))
  obtain ⟨c0, c1, c2, c3, f0, f1, f2, f3⟩ := blkP hp
  have l2 : l + 1 < 1000001 := by omega
  have l3 : 0 ≤ l + 1 := by omega
  go_wp2_with fail
  have hp2 := (store1 hp (o := 3) (v := .int .i64 (l + 1))).trans rfl
  refine (htk.out _ hp2 (ownsRow_setCell_below hown.out (a := ⟨p, 3, none⟩) (Nat.lt_succ_self p) (.int .i64 (l + 1)))).mono ?_
  rintro e w3 ⟨rfl, hM, hp3, hown3⟩
  clear c0 c1 c2 c3 f0 f1 f2 f3
  have hM2 : Moved p (some g) w w3 := ((Moved.of_below hb).set _).trans hM (.inl rfl)
  go_wp2
  go_ret
  exact ⟨rfl, hM2, hp3, hown3⟩
end Go.Proofs.Ytjkbinpgclnedaa
