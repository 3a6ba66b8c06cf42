/-
  The document's oracle, asked one question.
-/
import Derived.Test.YtfklkplnbmhddaaDoorXoW
namespace Go.Proofs.YtfklkplnbmhddaaDoor
open Go.RowKit Flow Go.Maps F
set_option linter.unusedVariables false
set_option linter.unusedSimpArgs false

/-- The document's oracle: what it holds when so many bytes were read. -/
structure RefO (w : World) (B o lb lc : Nat) (own : Nat → Option Role) (d : List Int) (A : Option Addr) (c : Nat) (at' : Nat) : Prop where
  hs : w.heap[o]? = some (.cells #[.slice A d.length c, .int .i64 (at' : Int), .slice (some ⟨lb, 0, none⟩) 1 lc] 54 (0, 0))
  rs : own o = some .src
  rl : own lb = some .mp
  hl : ∃ (cur : Array Value) (bv : Value), w.heap[lb]? = some (.cells cur 87 (0, 0)) ∧ cur[1]? = some bv ∧ w.ownsRow B 5 1 bv at' ((pull d at').map (Value.int .u8)) ∧ ∀ g, bv.ownBlock = some g → own g = some .asked
  hd : ∃ b, (∀ ad, A = some ad → d ≠ [] → ad.block = b) ∧ b < B ∧ News w A d.length c 1 (d.map (Value.int .u8))
  hown : ∀ k r, own k = some r → B ≤ k ∧ k < w.heap.size
theorem News.far {w w' : World} {A : Option Addr} {m c : Nat} {d : List Int} {b : Nat} (h : News w A m c 1 (d.map (Value.int .u8))) (hA : ∀ ad, A = some ad → d ≠ [] → ad.block = b) (hk : w'.heap[b]? = w.heap[b]?) : News w' A m c 1 (d.map (Value.int .u8)) :=
  ⟨h.len, h.none, fun ad ha j u hj => (World.cell?_of_block (w := w) (a := ad.add j) (by rw [addr_add_block, hA ad ha (by intro e; rw [e] at hj; cases hj)]; exact hk)).trans (h.lies ad ha j u hj)⟩
theorem RefO.up {w w' : World} {B o lb lc : Nat} {own : Nat → Option Role} {d : List Int} {A : Option Addr} {c at' : Nat} (h : RefO w B o lb lc own d A c at') (hk : ∀ k, own k ≠ none ∨ k < B → k < w.heap.size → w'.heap[k]? = w.heap[k]?) (hz : w.heap.size ≤ w'.heap.size) : RefO w' B o lb lc own d A c at' := by
  have hx : ∀ k r, own k = some r → w'.heap[k]? = w.heap[k]? := fun k r hr => hk k (.inl (by rw [hr]; intro e; cases e)) (h.hown k r hr).2
  obtain ⟨cur, bv, h1, h2, h3, h4⟩ := h.hl
  obtain ⟨b, g1, g2, g3⟩ := h.hd
  refine ⟨(hx o _ h.rs).trans h.hs, h.rs, h.rl, ⟨cur, bv, (hx lb _ h.rl).trans h1, h2, row_keep h3 fun g hg => hx g _ (h4 g hg), h4⟩, ⟨b, g1, g2, ?_⟩, fun k r hr => ⟨(h.hown k r hr).1, Nat.lt_of_lt_of_le (h.hown k r hr).2 hz⟩⟩
  exact News.far g3 g1 (hk b (.inr g2) (by have := h.hown o _ h.rs; omega))
theorem RefO.below {w w' : World} {B o lb lc : Nat} {own : Nat → Option Role} {d : List Int} {A : Option Addr} {c at' : Nat} (h : RefO w B o lb lc own d A c at') (hb : Below w.heap.size w w') : RefO w' B o lb lc own d A c at' := h.up (fun k _ hk => hb.block k hk) hb.size
theorem info_answer : (Tryd.prog.info? 87).map (fun i => (i.zero, i.size, i.bytes)) = some (some (.agg #[.string ⟨#[]⟩, .slice none 0 0]), 2, 40) := by kernel_rfl
theorem news_two {w : World} {p : Nat} {a b : Value} {t : TypeId} {fr : Nat × Nat} (h : w.heap[p]? = some (.cells #[a, b] t fr)) (c : Nat) : News w (some ⟨p, 0, none⟩) 1 c 2 [a, b] := by
  refine ⟨rfl, fun h => (by cases h), fun ad ha j u hj => ?_⟩
  cases ha
  rw [Addr.add_mid, Nat.zero_add]
  simp only [World.cell?, h]
  match j with
  | 0 => simpa using hj
  | 1 => simpa using hj
  | j + 2 => cases hj
theorem below_drewM (w : World) (n : Nat) : Below w.heap.size w (w.drewN n) := (fun h => ⟨h.os, h.tape, h.output, h.size, h.block⟩ : Below w.heap.size w w → Below w.heap.size w (w.drewN n)) (Below.refl _ _)
set_option maxHeartbeats 4000000 in
theorem find_ok {w : World} {B o : Nat} {d : List Int} {A : Option Addr} {c : Nat} (q : ByteArray) (hs : w.heap[o]? = some (.cells #[.slice A d.length c, .int .i64 0, .slice none 0 0] 54 (0, 0))) (hB : B ≤ o) (hd : ∃ b, (∀ ad, A = some ad → d ≠ [] → ad.block = b) ∧ b < B ∧ News w A d.length c 1 (d.map (Value.int .u8))) :
    Calls Tryd.prog 18 #[.pointer (some ⟨o, 0, none⟩), .string q] w fun e w' => ∃ lb lc own, e = .returned (.int .i64 0) ∧ But o w w' ∧ RefO w' B o lb lc own d A c 0 := by
  obtain ⟨i0, hinf, hz0, hz1, hz2⟩ := info_parts info_answer
  have c1 : w.cell? ⟨o, 1, none⟩ = some (.int .i64 0) := by simp [World.cell?, hs]
  have c2 : w.cell? ⟨o, 2, none⟩ = some (.slice none 0 0) := by simp [World.cell?, hs]
  have hol := lt_of_get hs
  have hba := (Below.refl w.heap.size w).alloc (Nat.le_refl _) (.cells #[.string q, .slice none 0 0] 87 (0, 0))
  have hs3 := keeps hba hs
  have hnw : News (w.alloc (.cells #[.string q, .slice none 0 0] 87 (0, 0))) (some ⟨w.heap.size, 0, none⟩) 1 1 2 [.string q, .slice none 0 0] := news_two (alloc_at rfl) 1
  have t3 : o + 1 ≤ (w.alloc (.cells #[.string q, .slice none 0 0] 87 (0, 0))).heap.size := by simp; omega
  have t1 : 0 + 1 ≤ maxLen := by unfold maxLen; omega
  have t2 : (0 + 1) * 40 ≤ 140737488355328 := by omega
  replace hs3 := Lib.hid hs3
  replace hba := Lib.hid hba
  replace hd := Lib.hid hd
  clear hs
  go_enter Tryd.func18, Tryd.ntmps18
  go_wp2
  go_loopw [5] (fun i wr => i = .int .i64 0 ∧ wr = w) (fun _ _ => 0)
  case atStart => exact ⟨rfl, rfl⟩
  obtain ⟨rfl, hwr⟩ := hrel
  subst hwr
  go_wp2_with (at_builtin; go_loud (refine wpList_append_wh rfl _ _ 52 rfl (o + 1) 87 i0 (.agg #[.string ⟨#[]⟩, .slice none 0 0]) 2 40 Tryd.underlying52 hinf hz0 hz1 hz2 rfl (by decide) _ _ _ rfl (World.ownsRow_nil _ _ _ _) _ _ _ _ rfl hnw (by intro u hu; simp at hu; rcases hu with rfl | rfl <;> rfl) t1 t2 t3 ?_); intro v8 w8 hown8 hg8 hwh8; obtain ⟨lb, lc, rfl⟩ := owns_some hown8 (by decide); have hs8 : w8.heap[o]? = _ := (hg8.block o (lt_of_get hs3.out) (fun e => by cases e)).trans hs3.out; have e2 : w8.cell? ⟨o, 2, none⟩ = some (.slice none 0 0) := (by simp [World.cell?, hs8]); have f2 : w8.frozen? ⟨o, 2, none⟩ = false := (by simp [World.frozen?, hs8]); have k9 := store1 hs8 (o := 2) (v := .slice (some ⟨lb, 0, none⟩) 1 lc); replace hs8 := Lib.hid hs8; have e9 : (w8.setCell ⟨o, 2, none⟩ (.slice (some ⟨lb, 0, none⟩) 1 lc)).cell? ⟨o, 2, none⟩ = some (.slice (some ⟨lb, 0, none⟩) 1 lc) := (by simp [World.cell?, k9]); replace k9 := Lib.hid k9; replace hown8 := Lib.hid hown8; replace hg8 := Lib.hid hg8; clear t1 t2 t3 hnw)
  go_ret
  have hlb := hown8.out.lt lb rfl
  have hlo : lb ≠ o := by omega
  refine ⟨lb, lc, fun k => if k = o then some .src else if k = lb then some .mp else none, rfl, ?_, k9.out, if_pos rfl, by show (if lb = o then some Role.src else if lb = lb then some .mp else none) = _; rw [if_neg hlo, if_pos rfl], ?_, ?_, fun k r hk => ?_⟩
  · refine ⟨hg8.out.os.trans hba.out.os, hg8.out.tape.trans hba.out.tape, hg8.out.output.trans hba.out.output, ?_, fun k hk hne => ?_⟩
    · have := hg8.out.size
      have := hba.out.size
      simp [World.setCell] at *
      omega
    · exact (Below.heap_setCell _ _ _ _ hne).trans ((hg8.out.block k (by have := hba.out.size; omega) (fun e => by cases e)).trans (hba.out.block k hk))
  · rcases hown8.out.2 with ⟨e, _⟩ | ⟨g, cap, cur, e, _, hgg, hnc, _, hcs, htk⟩
    · cases e
    · cases e
      refine ⟨cur, .slice none 0 0, (Below.heap_setCell _ _ _ _ hlo).trans hgg, ?_, World.ownsRow_nil _ _ _ _, fun g hg => by cases hg⟩
      have : (cur.toList.take 2)[1]? = some (.slice none 0 0) := by rw [show (2 : Nat) = (0 + 1) * 2 from rfl, htk]; rfl
      rw [List.getElem?_take] at this
      simpa using this
  · obtain ⟨b, g1, g2, g3⟩ := hd.out
    refine ⟨b, g1, g2, ?_⟩
    exact News.far (News.far (g3.up hba.out) g1 (hg8.out.block b (by have := hba.out.size; omega) (fun e => by cases e))) g1 (Below.heap_setCell _ _ _ _ (by show b ≠ o; omega))
  · have hz : (w8.setCell ⟨o, 2, none⟩ (.slice (some ⟨lb, 0, none⟩) 1 lc)).heap.size = w8.heap.size := by simp [World.setCell]
    have hz8 := hg8.out.size
    have hz9 := hba.out.size
    rw [hz]
    split at hk
    · omega
    · split at hk
      · omega
      · cases hk
end Go.Proofs.YtfklkplnbmhddaaDoor
