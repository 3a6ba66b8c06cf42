/-
  Letters on their way: one comes, is looked at, is doubled.
-/
import Derived.Test.YtjkbinpgclnedaaNetD
namespace Go.Proofs.Ytjkbinpgclnedaa
open Go.RowKit Flow
set_option linter.unusedVariables false

set_option maxHeartbeats 4000000 in
theorem deliver_any (p g cap i : Nat) (L : List (Int × Int × Value)) (s c l f t : Int) (a : Option Addr) (nb cb : Nat) (hi : L[i]? = some (f, t, .slice a nb cb)) (hL : L.length ≤ 5000) (l0 : 0 ≤ c) (l1 : c < 1000000) (hS : Slices L) (w : World)
    (hp : w.heap[p]? = some (.cells #[.slice (some ⟨g, 0, none⟩) L.length cap, .int .i64 s, .int .i64 c, .int .i64 l] 46 (0, 0))) (hown : w.ownsRow (p + 1) 32 3 (.slice (some ⟨g, 0, none⟩) L.length cap) L.length (lcells L)) :
    Calls Try.prog 8 #[.pointer (some ⟨p, 0, none⟩), .int .i64 i] w fun e w' => e = .returned (.tuple #[.agg #[.int .i64 f, .int .i64 t, .slice a nb cb], .bool true]) ∧ Moved p (some g) w w' ∧
      w'.heap[p]? = some (.cells #[.slice (some ⟨g, 0, none⟩) (L.length - 1) cap, .int .i64 s, .int .i64 (c + 1), .int .i64 l] 46 (0, 0)) ∧ w'.ownsRow (p + 1) 32 3 (.slice (some ⟨g, 0, none⟩) (L.length - 1) cap) (L.length - 1) (lcells (L.eraseIdx i)) := by
  have hil := (List.getElem?_eq_some_iff.1 hi).1
  have hhas := Lib.hid (fun w hp => nhas_in p (some ⟨g, 0, none⟩) L.length cap s c l i hil hL w hp)
  have htk := Lib.hid (fun w hp hown => take_any p g cap i L s (c + 1) l f t a nb cb hi hL hS w hp hown)
  have hlg := (hown.lt g rfl)
  have hlp := lt_of_get hp
  replace hown := Lib.hid hown
  generalize hn : L.length = n at *
  replace hn := Lib.hid hn
  go_enter Try.func8, Try.ntmps8
  go_wp2_with fail
  have hz := (Below.refl w.heap.size w).alloc (Nat.le_refl _) (.cells #[.int .i64 0, .int .i64 0, .slice none 0 0] 32 (0, 0))
  refine call_then (hhas.out _ (alloc_keeps hp)) ?_
  intro w2 hb
  have kz := keeps hb (alloc_at (w := w) (o := .cells #[.int .i64 0, .int .i64 0, .slice none 0 0] 32 (0, 0)) rfl)
  replace hp := keeps hb (alloc_keeps (o := .cells #[.int .i64 0, .int .i64 0, .slice none 0 0] 32 (0, 0)) hp)
  replace hb := below_next hz hz.size hb
  clear hz
  replace hown := Lib.hid (hown.out.kept ⟨hb.os, hb.tape, hb.output, hb.size, fun k hk _ => hb.block k hk⟩ (row := none) (by simp [Value.ownBlock]))
  obtain ⟨c0, c1, c2, c3, f0, f1, f2, f3⟩ := blkP hp
  have l2 : c + 1 < 1000001 := by omega
  have l3 : 0 ≤ c + 1 := by omega
  have npz : p ≠ w.heap.size := by omega
  go_wp2_with fail
  have hp2 := (store1 hp (o := 2) (v := .int .i64 (c + 1))).trans rfl
  refine (htk.out _ hp2 (ownsRow_setCell_below hown.out (a := ⟨p, 2, none⟩) (Nat.lt_succ_self p) (.int .i64 (c + 1)))).mono ?_
  rintro e w3 ⟨rfl, hM, hp3, hown3⟩
  clear c0 c1 c2 c3 f0 f1 f2 f3
  have k4 := (hM.block w.heap.size (by simp [World.setCell]; exact lt_of_get kz) (Ne.symm npz) (fun e => by cases e; omega)).trans (store_far (a := ⟨p, 2, none⟩) (v := .int .i64 (c + 1)) kz (Ne.symm npz))
  have hM2 : Moved p (some g) w w3 := ((Moved.of_below hb).set _).trans hM (.inl rfl)
  clear hM kz hb hp hp2 hown
  obtain ⟨d0, d1, d2, g0, g1, g2⟩ := blkN k4
  have l4 := lt_of_get k4
  go_wp2
  have q4 := store1 (store1 (store1 k4 (o := 0) (v := .int .i64 f)) (o := 1) (v := .int .i64 t)) (o := 2) (v := .slice a nb cb)
  obtain ⟨r0, r1, r2, _⟩ := blkN (u := .int .i64 f) (v := .int .i64 t) (x := .slice a nb cb) (q4.trans rfl)
  have qp := store_far (a := ⟨w.heap.size, 2, none⟩) (v := .slice a nb cb) (store_far (a := ⟨w.heap.size, 1, none⟩) (v := .int .i64 t) (store_far (a := ⟨w.heap.size, 0, none⟩) (v := .int .i64 f) hp3 npz) npz) npz
  have hgz : ∀ g', (Value.slice (some ⟨g, 0, none⟩) (n - 1) cap).ownBlock = some g' → g' ≠ w.heap.size := fun g' e => by cases e; show g ≠ w.heap.size; omega
  have hrow := owns_set (owns_set (owns_set hown3 (o := 0) hgz (.int .i64 f)) (o := 1) hgz (.int .i64 t)) (o := 2) hgz (.slice a nb cb)
  exact bodyPost_ret (v := .tuple #[.agg #[.int .i64 f, .int .i64 t, .slice a nb cb], .bool true]) (by simp [results, Try.results8, go_sem, r0, r1, r2]) rfl
    ⟨rfl, ((hM2.setNew (Nat.le_refl _) _).setNew (Nat.le_refl _) _).setNew (Nat.le_refl _) _, qp, hrow⟩
set_option maxHeartbeats 4000000 in
theorem peek_any (p g cap i : Nat) (L : List (Int × Int × Value)) (s c l f t : Int) (a : Option Addr) (nb cb : Nat) (xs : List Int) (hi : L[i]? = some (f, t, .slice a nb cb)) (hL : L.length ≤ 5000) (hx : xs.length ≤ 1048576) (w : World)
    (hp : w.heap[p]? = some (.cells #[.slice (some ⟨g, 0, none⟩) L.length cap, .int .i64 s, .int .i64 c, .int .i64 l] 46 (0, 0))) (hown : w.ownsRow (p + 1) 32 3 (.slice (some ⟨g, 0, none⟩) L.length cap) L.length (lcells L)) (htx : Txt w p (some g) (.slice a nb cb) xs) :
    Calls Try.prog 15 #[.pointer (some ⟨p, 0, none⟩), .int .i64 i] w fun e w' => ∃ bv, e = .returned (.tuple #[.agg #[.int .i64 f, .int .i64 t, bv], .bool true]) ∧ Below w.heap.size w w' ∧ Fresh w.heap.size w' bv xs ∧ ∃ a n c, bv = .slice a n c := by
  have hil := (List.getElem?_eq_some_iff.1 hi).1
  have hhas := Lib.hid (fun w hp => nhas_in p (some ⟨g, 0, none⟩) L.length cap s c l i hil hL w hp)
  have hcp := Lib.hid (fun w h => copied_any p (some g) f t _ xs ⟨a, nb, cb, rfl⟩ w h hx)
  obtain ⟨b0, b1, b2⟩ := owns_letter hown hi
  have hlp := lt_of_get hp
  have i0 : (0 : Int) ≤ (i : Int) := by omega
  have i1 : (i : Int) < (L.length : Int) := by omega
  replace hown := Lib.hid hown
  replace htx := Lib.hid htx
  generalize hn : L.length = n at *
  replace hn := Lib.hid hn
  go_enter Try.func15, Try.ntmps15
  go_wp2_with fail
  have hz := (Below.refl w.heap.size w).alloc (Nat.le_refl _) (.cells #[.int .i64 0, .int .i64 0, .slice none 0 0] 32 (0, 0))
  refine call_then (hhas.out _ (alloc_keeps hp)) ?_
  intro w2 hb
  have kz := keeps hb (alloc_at (w := w) (o := .cells #[.int .i64 0, .int .i64 0, .slice none 0 0] 32 (0, 0)) rfl)
  replace hp := keeps hb (alloc_keeps (o := .cells #[.int .i64 0, .int .i64 0, .slice none 0 0] 32 (0, 0)) hp)
  replace hb := below_next hz hz.size hb
  clear hz
  replace b0 := (hb.cell (World.block_lt_of_cell? _ _ b0)).trans b0
  replace b1 := (hb.cell (World.block_lt_of_cell? _ _ b1)).trans b1
  replace b2 := (hb.cell (World.block_lt_of_cell? _ _ b2)).trans b2
  obtain ⟨c0, c1, c2, c3, f0, f1, f2, f3⟩ := blkP hp
  go_wp2_with fail
  refine (hcp.out _ (htx.out.moved (Moved.of_below hb) (.inl rfl))).mono ?_
  rintro e w3 ⟨bv, rfl, hb3, hfr, a', n', c', rfl⟩
  clear c0 c1 c2 c3 f0 f1 f2 f3 b0 b1 b2
  have k4 := keeps hb3 kz
  have hz2 := lt_of_get kz
  replace hfr := hfr
  replace hb := below_next hb hb.size hb3
  obtain ⟨d0, d1, d2, g0, g1, g2⟩ := blkN k4
  have l4 := lt_of_get k4
  go_wp2
  have q4 := store1 (store1 (store1 k4 (o := 0) (v := .int .i64 f)) (o := 1) (v := .int .i64 t)) (o := 2) (v := .slice a' n' c')
  obtain ⟨r0, r1, r2, _⟩ := blkN (u := .int .i64 f) (v := .int .i64 t) (x := .slice a' n' c') (q4.trans rfl)
  refine bodyPost_ret (v := .tuple #[.agg #[.int .i64 f, .int .i64 t, .slice a' n' c'], .bool true]) (by simp [results, Try.results15, go_sem, r0, r1, r2]) rfl
    ⟨_, rfl, ((hb.setCell (p := ⟨w.heap.size, 0, none⟩) (Nat.le_refl _) _).setCell (p := ⟨w.heap.size, 1, none⟩) (Nat.le_refl _) _).setCell (p := ⟨w.heap.size, 2, none⟩) (Nat.le_refl _) _, ?_, _, _, _, rfl⟩
  refine (hfr.keep fun k h1 h2 => ?_).mono (by omega)
  rw [Below.heap_setCell _ _ _ _ (by show k ≠ w.heap.size; omega), Below.heap_setCell _ _ _ _ (by show k ≠ w.heap.size; omega), Below.heap_setCell _ _ _ _ (by show k ≠ w.heap.size; omega)]
end Go.Proofs.Ytjkbinpgclnedaa
