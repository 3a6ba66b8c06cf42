/-
  The document's oracle read.
-/
import Derived.Test.YtfklkplnbmhddaaDoorXoX
import Derived.Test.YtfklkplnbmhddaaDoorBQ
namespace Go.Proofs.YtfklkplnbmhddaaDoor
open Go.RowKit Flow Go.Maps F
set_option linter.unusedVariables false
set_option linter.unusedSimpArgs false

/-- How many draws were taken, as the oracle's block says. -/
def atOf (o : Nat) (w : World) : Nat := match w.cell? ⟨o, 1, none⟩ with
  | some v => (intOf v).toNat
  | none => 0
theorem atOf_is {w : World} {o n : Nat} (h : w.cell? ⟨o, 1, none⟩ = some (.int .i64 (n : Int))) : atOf o w = n := by
  unfold atOf
  rw [h]
  rfl
theorem RefO.cells {w : World} {B o lb lc : Nat} {own : Nat → Option Role} {d : List Int} {A : Option Addr} {c at' : Nat} (h : RefO w B o lb lc own d A c at') :
    w.cell? ⟨o, 0, none⟩ = some (.slice A d.length c) ∧ w.cell? ⟨o, 1, none⟩ = some (.int .i64 (at' : Int)) ∧ w.cell? ⟨o, 2, none⟩ = some (.slice (some ⟨lb, 0, none⟩) 1 lc) ∧ (∀ i, w.frozen? ⟨o, i, none⟩ = false) ∧ (∀ i, w.frozen? ⟨lb, i, none⟩ = false) ∧
      ∃ bA bc, w.cell? ⟨lb, 1, none⟩ = some (.slice bA at' bc) := by
  have hs := h.hs
  obtain ⟨cur, bv, h1, h2, h3, h4⟩ := h.hl
  obtain ⟨bA, bc, rfl⟩ := owns_slice h3
  refine ⟨by simp [World.cell?, hs], by simp [World.cell?, hs], by simp [World.cell?, hs], fun i => by simp [World.frozen?, hs], fun i => by simp [World.frozen?, h1], bA, bc, by simp [World.cell?, h1, h2]⟩
section
variable {P : Program} {w : World}
theorem step_append_wh {ops : Array Oper} {o : Oper} {a : Act} {K : Act → World → Prop} {Q : Exit → Act → World → Prop} {E : Prop} (hgd : o.guard = none) (s x : Operand) (t : TypeId)
    (ho : o.op = .call { callee := .builtin .append, args := #[s, x], argTypes := #[t, t] })
    (base : Nat) (e : TypeId) (i : TypeInfo) (z : Value) (size bytes : Nat) (ht : P.underlying t = some (.slice e)) (hi : P.info? e = some i) (hz : i.zero = some z)
    (hsize : i.size = size) (hby : i.bytes = bytes) (hzs : z.cells.size = size) (hsz : 0 < size)
    (v : Value) (n : Nat) (xs : List Value) (hs : a.eval s = v) (hown : w.ownsRow base e size v n xs)
    (ad : Addr) (m c : Nat) (news : List Value) (hx : a.eval x = .slice (some ad) m c) (hnews : News w (some ad) m c size news) (h1 : ∀ u ∈ news, u.oneCell' = true) (hm : 0 < m)
    (h63 : n + m ≤ maxLen) (hbytes : (n + m) * bytes ≤ 140737488355328) (hbase : base ≤ w.heap.size)
    (h : ∀ v' w', w'.ownsRow base e size v' (n + m) (xs ++ news) → w.grownBy w' v.ownBlock → (v'.ownBlock = v.ownBlock ∨ v'.ownBlock = some w.heap.size) → K (a.put o.dst v') w') :
    if Region.wanted o (yielded ops a.tmps) = true then Oper.wp P o a w K Q else E := by
  have hw : Region.wanted o (yielded ops a.tmps) = true := by simp [Region.wanted, hgd]
  rw [if_pos hw]
  exact wp_append_at s x t ho base e i z size bytes ht hi hz hsize hby hzs hsz v n xs hs hown ad m c news hx hnews.len (hnews.lies ad rfl) h1 hm h63 hbytes hbase h
end
/-- The document's oracle amid a byte's draw. -/
structure RefM (w : World) (B o lb lc : Nat) (own : Nat → Option Role) (d : List Int) (A : Option Addr) (c J : Nat) (cur : Array Value) (bv : Value) (n : Nat) : Prop where
  hs : w.heap[o]? = some (.cells #[.slice A d.length c, .int .i64 (J : Int), .slice (some ⟨lb, 0, none⟩) 1 lc] 54 (0, 0))
  rs : own o = some .src
  rl : own lb = some .mp
  hl : w.heap[lb]? = some (.cells cur 87 (0, 0))
  h2 : ∃ x, cur[1]? = some x
  hrow : w.ownsRow B 5 1 bv n ((pull d n).map (Value.int .u8))
  hb : ∀ g, bv.ownBlock = some g → own g = some .asked
  hd : ∃ b, (∀ ad, A = some ad → d ≠ [] → ad.block = b) ∧ b < B ∧ News w A d.length c 1 (d.map (Value.int .u8))
  hown : ∀ k r, own k = some r → B ≤ k ∧ k < w.heap.size
section
variable {w w' : World} {B o lb lc : Nat} {own : Nat → Option Role} {d : List Int} {A : Option Addr} {c J : Nat} {cur : Array Value} {bv : Value} {n : Nat}
theorem RefM.below (h : RefM w B o lb lc own d A c J cur bv n) (hb : Below w.heap.size w w') : RefM w' B o lb lc own d A c J cur bv n := by
  obtain ⟨b, g1, g2, g3⟩ := h.hd
  have hs := h.hown o _ h.rs
  exact ⟨keeps hb h.hs, h.rs, h.rl, keeps hb h.hl, h.h2, row_keep h.hrow fun g hg => hb.block g (h.hown g _ (h.hb g hg)).2, h.hb, ⟨b, g1, g2, News.far g3 g1 (hb.block b (by omega))⟩, fun k r hr => ⟨(h.hown k r hr).1, Nat.lt_of_lt_of_le (h.hown k r hr).2 hb.size⟩⟩
theorem RefM.held {r : Option Nat} (h : RefM w B o lb lc own d A c J cur bv n) (hg : w.grownBy w' bv.ownBlock) : HeldS (fun k => k = o ∨ k = lb) w w' := by
  refine ⟨hg.os, hg.tape, hg.output, hg.size, fun k hk hgk => hg.block k hk fun e => ?_⟩
  have h1 := h.hb k e.symm
  rcases hgk with rfl | rfl
  · rw [h.rs] at h1; cases h1
  · rw [h.rl] at h1; cases h1
theorem RefM.grown {X : Int} {v8 : Value} (h : RefM w B o lb lc own d A c J cur bv n) (hg : w.grownBy w' bv.ownBlock) (hrow : w'.ownsRow B 5 1 v8 (n + 1) ((pull d n).map (Value.int .u8) ++ [Value.int .u8 X])) (hX : d.getD n 0 = X)
    (hr' : v8.ownBlock = bv.ownBlock ∨ v8.ownBlock = some w.heap.size) : RefM w' B o lb lc (setOwn own v8.ownBlock .asked) d A c J cur v8 (n + 1) ∧ Turn own (setOwn own v8.ownBlock .asked) w w' := by
  have hlt := fun k y (hk : own k = some y) => (h.hown k y hk).2
  have key : ∀ k y, own k = some y → y ≠ .asked → setOwn own v8.ownBlock .asked k = some y ∧ w'.heap[k]? = w.heap[k]? := fun k y hk hy => by
    obtain ⟨h1, h2⟩ := setOwn_keep h.hb hlt hr' hk hy
    exact ⟨h1, hg.block k (hlt k y hk) (fun e => h2 e.symm)⟩
  have hps := pull_succ d n
  rw [headD_getD, show (d.drop n).getD 0 0 = d.getD n 0 by simp [List.getD_eq_getElem?_getD, List.getElem?_drop], hX] at hps
  obtain ⟨b, g1, g2, g3⟩ := h.hd
  have hs := h.hown o _ h.rs
  refine ⟨⟨(key o _ h.rs (by intro e; cases e)).2.trans h.hs, (key o _ h.rs (by intro e; cases e)).1, (key lb _ h.rl (by intro e; cases e)).1, (key lb _ h.rl (by intro e; cases e)).2.trans h.hl, h.h2, ?_, fun g hgg => by rw [hgg]; exact setOwn_at _ _ _, ⟨b, g1, g2, News.far g3 g1 (hg.block b (by omega) fun e => ?_)⟩, fun k y hk => ?_⟩, ⟨hg.os, hg.tape, hg.output, hg.size, fun k hk hn => ?_⟩⟩
  · rw [hps, List.map_append]
    exact hrow
  · have := (h.hown b _ (h.hb b e.symm)).1
    omega
  · unfold setOwn at hk
    split at hk
    · rename_i e
      have := hrow.lt k e.symm
      exact ⟨this.1, this.2⟩
    · have := h.hown k y hk
      exact ⟨this.1, Nat.lt_of_lt_of_le this.2 hg.size⟩
  · have hne : bv.ownBlock ≠ some k := fun e => by have := h.hb k e; rw [hn] at this; cases this
    refine ⟨hg.block k hk (fun e => hne e.symm), ?_⟩
    unfold setOwn
    rw [if_neg, hn]
    intro e
    rcases hr' with h1 | h1
    · exact hne (h1 ▸ e.symm)
    · rw [h1] at e; have := Option.some.inj e; omega
theorem RefM.cells (h : RefM w B o lb lc own d A c J cur bv n) :
    w.cell? ⟨o, 0, none⟩ = some (.slice A d.length c) ∧ w.cell? ⟨o, 1, none⟩ = some (.int .i64 (J : Int)) ∧ w.cell? ⟨o, 2, none⟩ = some (.slice (some ⟨lb, 0, none⟩) 1 lc) ∧ (∀ i, w.frozen? ⟨o, i, none⟩ = false) ∧ (∀ i, w.frozen? ⟨lb, i, none⟩ = false) ∧
      ∃ x, w.cell? ⟨lb, 1, none⟩ = some x := by
  have hs := h.hs
  have h1 := h.hl
  obtain ⟨x, h2⟩ := h.h2
  refine ⟨by simp [World.cell?, hs], by simp [World.cell?, hs], by simp [World.cell?, hs], fun i => by simp [World.frozen?, hs], fun i => by simp [World.frozen?, h1], x, by simp [World.cell?, h1, h2]⟩
theorem RefM.store (h : RefM w B o lb lc own d A c J cur bv J) : RefO (w.setCell ⟨lb, 1, none⟩ bv) B o lb lc own d A c J ∧ Turn own own w (w.setCell ⟨lb, 1, none⟩ bv) := by
  have ho : o ≠ lb := fun e => by have := h.rs; rw [e, h.rl] at this; cases this
  have hz : (w.setCell ⟨lb, 1, none⟩ bv).heap.size = w.heap.size := by simp [World.setCell]
  obtain ⟨x, h2⟩ := h.h2
  obtain ⟨b, g1, g2, g3⟩ := h.hd
  have hl := h.hown lb _ h.rl
  have far : ∀ k, k ≠ lb → (w.setCell ⟨lb, 1, none⟩ bv).heap[k]? = w.heap[k]? := fun k hk => Below.heap_setCell _ _ _ _ hk
  refine ⟨⟨(far o ho).trans h.hs, h.rs, h.rl, ⟨cur.setIfInBounds 1 bv, bv, store1 h.hl, ?_, row_keep h.hrow fun g hg => far g fun e => ?_, h.hb⟩, ⟨b, g1, g2, News.far g3 g1 (far b (by omega))⟩, fun k r hk => by rw [hz]; exact h.hown k r hk⟩,
    ⟨rfl, rfl, rfl, Nat.le_of_eq hz.symm, fun k hk hn => ⟨far k (fun e => by rw [e, h.rl] at hn; cases hn), hn⟩⟩⟩
  · have : 1 < cur.size := by
      by_cases hh : 1 < cur.size
      · exact hh
      · rw [Array.getElem?_eq_none (by omega)] at h2; cases h2
    simp [Array.getElem?_setIfInBounds, this]
  · have := h.hb g hg
    rw [e, h.rl] at this
    cases this
end
end Go.Proofs.YtfklkplnbmhddaaDoor
