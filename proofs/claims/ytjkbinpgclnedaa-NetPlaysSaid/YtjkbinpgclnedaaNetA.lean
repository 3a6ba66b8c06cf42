/-
  Letters on their way: texts copied, a new net.
-/
import Derived.Test.YtjkbinpgclnedaaMid
import Derived.Test.YtjkbinpgclnedaaChecked
import Derived.WalkKit
import Derived.ProofKit
import Derived.Outline
import Derived.Deep.RegionHeld3
import Derived.Lib.Hide
import Derived.Deep.QuietTactic
import Derived.BigQuiet
import Derived.Laws.AppendOwn
import Derived.Laws.BytesArg
import Derived.Laws.Cover3
import Derived.Deep.DeepCutAuto
import Derived.Deep.CutBlock
import Derived.OwnWalk
import Derived.Laws.MakeOwn
namespace Go.Proofs.Ytjkbinpgclnedaa
open Go.RowKit Flow
set_option linter.unusedVariables false

/-- A text's bytes, in no block of those that change. -/
def Txt (w : World) (p : Nat) (go : Option Nat) (v : Value) (xs : List Int) : Prop :=
  (v = .slice none 0 0 ∧ xs = []) ∨ ∃ b o c, v = .slice (some ⟨b, o, none⟩) xs.length c ∧ ∀ i, i < xs.length → b ≠ p ∧ some b ≠ go ∧ w.cell? ⟨b, o + i, none⟩ = some (.int .u8 (xs.getD i 0))
/-- All blocks that were there are as they were, but for two. -/
structure Moved (p : Nat) (go : Option Nat) (w w' : World) : Prop where
  os : w'.os = w.os
  tape : w'.tape = w.tape
  output : w'.output = w.output
  size : w.heap.size ≤ w'.heap.size
  block : ∀ k, k < w.heap.size → k ≠ p → some k ≠ go → w'.heap[k]? = w.heap[k]?
theorem Moved.of_below {p : Nat} {go : Option Nat} {w w' : World} (h : Below w.heap.size w w') : Moved p go w w' := ⟨h.os, h.tape, h.output, h.size, fun k hk _ _ => h.block k hk⟩
theorem Moved.trans {p : Nat} {go go2 : Option Nat} {w w1 w2 : World} (h : Moved p go w w1) (h2 : Moved p go2 w1 w2) (hg : go2 = go ∨ ∃ g, go2 = some g ∧ w.heap.size ≤ g) : Moved p go w w2 :=
  ⟨h2.os.trans h.os, h2.tape.trans h.tape, h2.output.trans h.output, Nat.le_trans h.size h2.size, fun k hk h1 h3 => (h2.block k (Nat.lt_of_lt_of_le hk h.size) h1 (by
    rcases hg with rfl | ⟨g, rfl, hg⟩
    · exact h3
    · intro e; cases e; omega)).trans (h.block k hk h1 h3)⟩
theorem Moved.set {p o : Nat} {go : Option Nat} {w w' : World} (h : Moved p go w w') (v : Value) : Moved p go w (w'.setCell ⟨p, o, none⟩ v) :=
  ⟨h.os, h.tape, h.output, by simp [World.setCell]; exact h.size, fun k hk hne hg => (Below.heap_setCell _ _ _ _ hne).trans (h.block k hk hne hg)⟩
theorem Moved.below {B p : Nat} {go : Option Nat} {a w w' : World} (h : Moved p go w w') (hb : Below B a w) (hB : B ≤ p) (hg : ∀ g, go = some g → B ≤ g) (hs : B ≤ w.heap.size) : Below B a w' :=
  hb.trans ⟨h.os, h.tape, h.output, h.size, fun k hk => h.block k (by omega) (by omega) (fun e => by have := hg k e.symm; omega)⟩
theorem Txt.moved {p : Nat} {go go' : Option Nat} {w w' : World} {v : Value} {xs : List Int} (h : Txt w p go v xs) (hm : Moved p go w w') (hg : go' = go ∨ ∃ g, go' = some g ∧ w.heap.size ≤ g) : Txt w' p go' v xs := by
  rcases h with h | ⟨b, o, c, e, hc⟩
  · exact .inl h
  · refine .inr ⟨b, o, c, e, fun i hi => ?_⟩
    obtain ⟨h1, h2, h3⟩ := hc i hi
    have hlt := World.block_lt_of_cell? _ _ h3
    refine ⟨h1, ?_, ?_⟩
    · rcases hg with rfl | ⟨g, rfl, hg⟩
      · exact h2
      · intro e; cases e; have : b < w.heap.size := hlt; omega
    · rw [World.cell?_of_block (w := w) (a := ⟨b, o + i, none⟩) (hm.block b hlt h1 h2)]
      exact h3
theorem Txt.conv {P : Program} {p : Nat} {go : Option Nat} {w : World} {v : Value} {xs : List Int} (h : Txt w p go v xs) {src e dst : TypeId} (hs : P.underlying src = some (.slice e)) (he : P.underlying e = some (.int .u8)) (hd : P.underlying dst = some .string) :
    (convert src dst v).run P w = .ok (.string (strOfNums xs)) w := by
  rcases h with ⟨rfl, rfl⟩ | ⟨b, o, c, rfl, hc⟩
  · exact run_convert_bytes_nil w src e hs he 0 0 dst hd
  · exact run_convert_bytes_arg w src e hs he b o _ c xs rfl (fun i hi => (hc i hi).2.2) dst hd
theorem info_byte : (Try.prog.info? 5).map (fun i => (i.zero.map (fun z => z.cells.size), i.size, i.bytes)) = some (some 1, 1, 1) := by kernel_rfl
theorem info_partsN {P : Program} {t : TypeId} {s n b : Nat} (h : (P.info? t).map (fun i => (i.zero.map (fun z => z.cells.size), i.size, i.bytes)) = some (some s, n, b)) : ∃ i z, P.info? t = some i ∧ i.zero = some z ∧ i.size = n ∧ i.bytes = b ∧ z.cells.size = s := by
  cases hi : P.info? t with
  | none => rw [hi] at h; cases h
  | some i =>
    rw [hi] at h
    simp only [Option.map_some, Option.some.injEq, Prod.mk.injEq] at h
    obtain ⟨h1, h2, h3⟩ := h
    cases hz : i.zero with
    | none => rw [hz] at h1; cases h1
    | some z => rw [hz] at h1; exact ⟨i, z, rfl, hz, h2, h3, by simpa using h1⟩
theorem blkN {w : World} {p : Nat} {t : TypeId} {u v x : Value} (h : w.heap[p]? = some (.cells #[u, v, x] t (0, 0))) :
    w.cell? ⟨p, 0, none⟩ = some u ∧ w.cell? ⟨p, 1, none⟩ = some v ∧ w.cell? ⟨p, 2, none⟩ = some x ∧ w.frozen? ⟨p, 0, none⟩ = false ∧ w.frozen? ⟨p, 1, none⟩ = false ∧ w.frozen? ⟨p, 2, none⟩ = false := by
  simp [World.cell?, World.frozen?, h]
/-- A text that a call made, from block B on. -/
def Fresh (B : Nat) (w : World) (v : Value) (xs : List Int) : Prop :=
  (v = .slice none 0 0 ∧ xs = []) ∨ ∃ b o c, v = .slice (some ⟨b, o, none⟩) xs.length c ∧ ∀ i, i < xs.length → B ≤ b ∧ w.cell? ⟨b, o + i, none⟩ = some (.int .u8 (xs.getD i 0)) ∧ w.frozen? ⟨b, o + i, none⟩ = false
theorem Fresh.txt {B : Nat} {w : World} {v : Value} {xs : List Int} (h : Fresh B w v xs) {p : Nat} {go : Option Nat} (hp : p < B) (hg : ∀ g, go = some g → g < B) : Txt w p go v xs := by
  rcases h with h | ⟨b, o, c, e, hc⟩
  · exact .inl h
  · exact .inr ⟨b, o, c, e, fun i hi => ⟨by have := (hc i hi).1; omega, fun e => by have := hg b e.symm; have := (hc i hi).1; omega, (hc i hi).2.1⟩⟩
theorem Fresh.mono {B B' : Nat} {w : World} {v : Value} {xs : List Int} (h : Fresh B w v xs) (hB : B' ≤ B) : Fresh B' w v xs := by
  rcases h with h | ⟨b, o, c, e, hc⟩
  · exact .inl h
  · exact .inr ⟨b, o, c, e, fun i hi => ⟨Nat.le_trans hB (hc i hi).1, (hc i hi).2⟩⟩
theorem Fresh.keep {B : Nat} {w w' : World} {v : Value} {xs : List Int} (h : Fresh B w v xs) (hk : ∀ k, B ≤ k → k < w.heap.size → w'.heap[k]? = w.heap[k]?) : Fresh B w' v xs := by
  rcases h with h | ⟨b, o, c, e, hc⟩
  · exact .inl h
  · refine .inr ⟨b, o, c, e, fun i hi => ⟨(hc i hi).1, ?_⟩⟩
    have e := hk b (hc i hi).1 (World.block_lt_of_cell? _ _ (hc i hi).2.1)
    rw [World.cell?_of_block (w := w) (a := ⟨b, o + i, none⟩) e, World.frozen?_of_block (w := w) (a := ⟨b, o + i, none⟩) e]
    exact (hc i hi).2
theorem Fresh.up {B : Nat} {w w' : World} {v : Value} {xs : List Int} (h : Fresh B w v xs) (hb : Below w.heap.size w w') : Fresh B w' v xs := h.keep fun k _ hk => hb.block k hk
theorem Fresh.of_owns {B : Nat} {w' : World} {v : Value} {n : Nat} {xs : List Int} (h : w'.ownsRow B 5 1 v n (xs.map (Value.int .u8))) : Fresh B w' v xs := by
  have hx : xs.length = n := by simpa using h.1
  rcases h.2 with ⟨rfl, hn⟩ | ⟨g, cap, cur, rfl, hbg, _⟩
  · exact .inl ⟨rfl, List.eq_nil_of_length_eq_zero (by omega)⟩
  · refine .inr ⟨g, 0, cap, by rw [hx], fun i hi => ⟨hbg, ?_⟩⟩
    have := h.cells (g := g) rfl i (.int .u8 (xs.getD i 0)) (by simp [hi])
    rw [Addr.add_mid] at this
    exact ⟨this, h.frozenAt _⟩
set_option maxHeartbeats 2000000 in
theorem bclone_any (p : Nat) (go : Option Nat) (v : Value) (xs : List Int) (w : World) (h : Txt w p go v xs) (hl : xs.length ≤ 1048576) : Calls Try.prog 23 #[v] w fun e w' => ∃ v', e = .returned v' ∧ Below w.heap.size w w' ∧ Fresh w.heap.size w' v' xs ∧ ∃ a n c, v' = .slice a n c := by
  rcases h with ⟨rfl, rfl⟩ | ⟨b, o, c, rfl, hc⟩
  · have heq : ∀ w : World, (binOp .eql 27 (.slice none 0 0) (.slice none 0 0)).run Try.prog w = .ok (.bool true) w := fun w => by
      simp only [binOp]
      simp [run_equal_slice_nil w 27 5 none 0 0 Try.underlying27]
    go_enter Try.func23, Try.ntmps23
    go_wp2
    go_ret
    exact ⟨_, rfl, Below.refl _ _, (.inl ⟨rfl, rfl⟩), _, _, _, rfl⟩
  · obtain ⟨i0, z0, hinf, hz0, hz1, hz2, hz3⟩ := info_partsN info_byte
    have hown : (w.alloc (.cells #[] 5 (0, 0))).ownsRow w.heap.size 5 1 (.slice (some ⟨w.heap.size, 0, none⟩) 0 0) 0 [] := World.ownsRow_lit w #[] 0 (Nat.le_refl _) (by unfold maxLen; omega) rfl
    have hn : ∀ j u, (xs.map (Value.int .u8))[j]? = some u → (w.alloc (.cells #[] 5 (0, 0))).cell? ((⟨b, o, none⟩ : Addr).add j) = some u := fun j u hj => by
      rw [Addr.add_mid]
      have hj' : j < xs.length := by have := (List.getElem?_eq_some_iff.1 hj).1; simpa using this
      obtain ⟨_, _, h3⟩ := hc j hj'
      rw [((Below.refl w.heap.size w).alloc (Nat.le_refl _) (.cells #[] 5 (0, 0))).cell (World.block_lt_of_cell? _ _ h3), h3]
      simp [hj'] at hj ⊢
      exact hj
    have hone : ∀ u ∈ xs.map (Value.int .u8), u.oneCell' = true := fun u hu => by obtain ⟨x, _, rfl⟩ := List.mem_map.1 hu; rfl
    have hlen : (xs.map (Value.int .u8)).length = xs.length * 1 := by simp
    have hfr : ∀ w' v n, World.ownsRow w' w.heap.size 5 1 v n (xs.map (Value.int .u8)) → Fresh w.heap.size w' v xs := fun w' v n h => Fresh.of_owns h
    generalize xs.length = m at *
    replace hn := Lib.hid hn
    replace hown := Lib.hid hown
    replace hone := Lib.hid hone
    replace hlen := Lib.hid hlen
    replace hfr := Lib.hid hfr
    replace hl := Lib.hid hl
    clear hc
    have heq : ∀ w : World, (binOp .eql 27 (.slice (some ⟨b, o, none⟩) m c) (.slice none 0 0)).run Try.prog w = .ok (.bool false) w := fun w => by
      simp only [binOp]
      simp [run_equal_slice_nil w 27 5 (some ⟨b, o, none⟩) m c Try.underlying27]
    go_enter Try.func23, Try.ntmps23
    go_wp2_with (at_builtin; refine wpList_append_own _ rfl _ _ 27 rfl w.heap.size 5 i0 z0 1 1 Try.underlying27 hinf hz0 hz1 hz2 hz3 (by decide) _ _ _ rfl hown.out ⟨b, o, none⟩ m c (xs.map (Value.int .u8)) rfl hlen.out hn.out hone.out (by have := hl.out; unfold maxLen; omega) (by have := hl.out; omega) (by simp) ?_; intro v1 w6 hown6 hg6 hnn; have hb6 := ((Below.refl w.heap.size w).alloc (Nat.le_refl _) (.cells #[] 5 (0, 0))).grown hg6 (by simp) (fun k hk => by cases hk; exact Nat.le_refl _); clear hg6)
    rw [List.nil_append] at hown6
    go_ret
    refine ⟨_, rfl, hb6, hfr.out _ _ _ hown6, ?_⟩
    rcases hown6.2 with ⟨e, _⟩ | ⟨g, cap, cur, e, _⟩
    · exact ⟨_, _, _, e⟩
    · exact ⟨_, _, _, e⟩
set_option maxHeartbeats 2000000 in
theorem copied_any (p : Nat) (go : Option Nat) (f t : Int) (v : Value) (xs : List Int) (hv : ∃ a n c, v = .slice a n c) (w : World) (h : Txt w p go v xs) (hl : xs.length ≤ 1048576) : Calls Try.prog 18 #[.agg #[.int .i64 f, .int .i64 t, v]] w fun e w' => ∃ v', e = .returned (.agg #[.int .i64 f, .int .i64 t, v']) ∧ Below w.heap.size w w' ∧ Fresh w.heap.size w' v' xs ∧ ∃ a n c, v' = .slice a n c := by
  have hcl := Lib.hid (fun w h => bclone_any p go v xs w h hl)
  obtain ⟨a, n, c, rfl⟩ := hv
  go_enter Try.func18, Try.ntmps18
  go_wp2_with fail
  have hb1 := ((Below.refl w.heap.size w).alloc (Nat.le_refl _) (.cells #[.int .i64 f, .int .i64 t, .slice a n c] 32 (0, 0))).alloc (by simp) (.cells #[.int .i64 0, .int .i64 0, .slice none 0 0] 32 (0, 0))
  refine (hcl.out _ (h.moved (Moved.of_below hb1) (.inl rfl))).mono ?_
  rintro e w2 ⟨v', rfl, hb2, hfr, a', n', c', rfl⟩
  have k0 := keeps hb2 (alloc_keeps (o := .cells #[.int .i64 0, .int .i64 0, .slice none 0 0] 32 (0, 0)) (alloc_at (w := w) (o := .cells #[.int .i64 f, .int .i64 t, .slice a n c] 32 (0, 0)) rfl))
  have k1 := keeps hb2 (alloc_at (w := w.alloc (.cells #[.int .i64 f, .int .i64 t, .slice a n c] 32 (0, 0))) (k := w.heap.size + 1) (o := .cells #[.int .i64 0, .int .i64 0, .slice none 0 0] 32 (0, 0)) (by simp))
  replace hb2 := below_next hb1 hb1.size hb2
  clear hb1 hcl h
  have l0 := lt_of_get k0
  have l1 := lt_of_get k1
  obtain ⟨c0, c1, c2, f0, f1, f2⟩ := blkN k0
  obtain ⟨d0, d1, d2, g0, g1, g2⟩ := blkN k1
  go_wp2
  have hfr2 : Fresh w.heap.size ((((w2.setCell { block := w.heap.size, off := 2 } (Value.slice a' n' c')).setCell { block := w.heap.size + 1, off := 0 } (Value.int IntKind.i64 f)).setCell { block := w.heap.size + 1, off := 1 } (Value.int IntKind.i64 t)).setCell { block := w.heap.size + 1, off := 2 } (Value.slice a' n' c')) (.slice a' n' c') xs := by
    refine (hfr.keep fun k h1 h2 => ?_).mono (by simp; omega)
    have h1' : w.heap.size + 1 < k := by simp at h1; omega
    rw [Below.heap_setCell _ _ _ _ (by show k ≠ w.heap.size + 1; omega), Below.heap_setCell _ _ _ _ (by show k ≠ w.heap.size + 1; omega), Below.heap_setCell _ _ _ _ (by show k ≠ w.heap.size + 1; omega), Below.heap_setCell _ _ _ _ (by show k ≠ w.heap.size; omega)]
  have k2 := store1 (store1 (store1 (store_far (a := ⟨w.heap.size, 2, none⟩) (v := .slice a' n' c') k1 (by show w.heap.size + 1 ≠ w.heap.size; omega)) (o := 0) (v := .int .i64 f)) (o := 1) (v := .int .i64 t)) (o := 2) (v := .slice a' n' c')
  obtain ⟨e0, e1, e2, _⟩ := blkN (u := .int .i64 f) (v := .int .i64 t) (x := .slice a' n' c') (k2.trans rfl)
  have hbE := (((hb2.setCell (p := ⟨w.heap.size, 2, none⟩) (Nat.le_refl _) (.slice a' n' c')).setCell (p := ⟨w.heap.size + 1, 0, none⟩) (Nat.le_succ _) (.int .i64 f)).setCell (p := ⟨w.heap.size + 1, 1, none⟩) (Nat.le_succ _) (.int .i64 t)).setCell (p := ⟨w.heap.size + 1, 2, none⟩) (Nat.le_succ _) (.slice a' n' c')
  exact bodyPost_ret (v := .agg #[.int .i64 f, .int .i64 t, .slice a' n' c']) (by simp [results, Try.results18, go_sem, e0, e1, e2]) rfl ⟨_, rfl, hbE, hfr2, _, _, _, rfl⟩
end Go.Proofs.Ytjkbinpgclnedaa
