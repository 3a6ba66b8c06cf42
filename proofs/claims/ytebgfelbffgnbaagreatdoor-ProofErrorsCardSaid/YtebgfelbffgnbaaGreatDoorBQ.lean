import Derived.Laws.StructEq
import Derived.Laws.Entries
import Derived.Test.YtebgfelbffgnbaaGreatDoorBA
import Derived.Laws.AppendOwn
import Derived.Laws.AppendOwnNone
import Derived.Laws.OwnMore
import Derived.Laws.Slices
import Derived.Below
import Derived.Deep.MidRow
import Derived.Test.YtebgfelbffgnbaaGreatDoorBE
import Derived.Test.YtebgfelbffgnbaaGreatDoorBB
import Derived.WalkKit
import Derived.OwnWalk
/-
  '==' of two arrays of whole numbers.
-/
namespace Go.Proofs.YtebgfelbffgnbaaGreatDoor
open Go
end Go.Proofs.YtebgfelbffgnbaaGreatDoor

/-
  Cuts of a row of the call's own; an append of what a slice says, be it nil: for regions that put one thing more into a row at its place.
-/
namespace Go.Proofs.YtebgfelbffgnbaaGreatDoor.Flow
open Go Go.RowKit
set_option linter.unusedVariables false

/-- What a slice says: so many of so many cells. -/
structure News (w : World) (A : Option Addr) (m c size : Nat) (xs : List Value) : Prop where
  len : xs.length = m * size
  none : A = none → m = 0 ∧ c = 0
  lies : ∀ ad, A = some ad → ∀ (j : Nat) u, xs[j]? = some u → w.cell? (ad.add j) = some u
theorem News.up {w w' : World} {A : Option Addr} {m c size : Nat} {xs : List Value} (h : News w A m c size xs) (hb : Below w.heap.size w w') : News w' A m c size xs :=
  ⟨h.len, h.none, fun ad ha j u hj => (hb.cell (World.block_lt_of_cell? _ _ (h.lies ad ha j u hj))).trans (h.lies ad ha j u hj)⟩
theorem News.held {w w' : World} {A : Option Addr} {m c size B : Nat} {xs : List Value} (h : News w A m c size xs) (hA : ∀ ad, A = some ad → ∀ (j : Nat), (ad.add j).block < B) (hb : Held B w w') : News w' A m c size xs :=
  ⟨h.len, h.none, fun ad ha j u hj => by
    have hl := h.lies ad ha j u hj
    exact (World.cell?_of_block (hb.block _ (World.block_lt_of_cell? _ _ hl) (hA ad ha j))).trans hl⟩
section
variable {P : Program} {w : World}
end
end Go.Proofs.YtebgfelbffgnbaaGreatDoor.Flow

/-
  An append of what a slice says, and where the row then lies.
-/
namespace Go.Proofs.YtebgfelbffgnbaaGreatDoor
open Go.RowKit Flow
set_option linter.unusedVariables false
set_option linter.unusedSimpArgs false

section
variable {P : Program} {w : World}
end
end Go.Proofs.YtebgfelbffgnbaaGreatDoor

/-
  XSegR once more: the worlds that may come are as the world at hand in some blocks.
-/
namespace Go.Proofs.YtebgfelbffgnbaaGreatDoor.Flow
open Go Go.RowKit
set_option linter.unusedVariables false

/-- All blocks that were there are as they were, in some. -/
structure HeldS (g : Nat → Prop) (w w' : World) : Prop where
  os : w'.os = w.os
  tape : w'.tape = w.tape
  output : w'.output = w.output
  size : w.heap.size ≤ w'.heap.size
  block : ∀ k, k < w.heap.size → g k → w'.heap[k]? = w.heap[k]?
theorem HeldS.refl (g : Nat → Prop) (w : World) : HeldS g w w := ⟨rfl, rfl, rfl, Nat.le_refl _, fun _ _ _ => rfl⟩
theorem HeldS.trans {g : Nat → Prop} {w w1 w2 : World} (h : HeldS g w w1) (h2 : HeldS g w1 w2) : HeldS g w w2 :=
  ⟨h2.os.trans h.os, h2.tape.trans h.tape, h2.output.trans h.output, Nat.le_trans h.size h2.size, fun k hk hg => (h2.block k (Nat.lt_of_lt_of_le hk h.size) hg).trans (h.block k hk hg)⟩
theorem HeldS.drew {g : Nat → Prop} {w w1 : World} (h : HeldS g w w1) : HeldS g w w1.drew := ⟨h.os, h.tape, h.output, h.size, h.block⟩
theorem HeldS.of_below {g : Nat → Prop} {w w1 : World} (h : Below w.heap.size w w1) : HeldS g w w1 := ⟨h.os, h.tape, h.output, h.size, fun k hk _ => h.block k hk⟩
theorem HeldS.keeps {g : Nat → Prop} {w w1 : World} (h : HeldS g w w1) {k : Nat} {o : Obj} (hk : w.heap[k]? = some o) (hg : g k) : w1.heap[k]? = some o := (h.block k (lt_of_get hk) hg).trans hk
structure LastingS (g : Nat → Prop) (W : World) (C : World → Prop) : Prop where
  some : ∃ w, C w
  old : ∀ w, C w → HeldS g W w
  on : ∀ w w', C w → Below w.heap.size w w' → C w'
theorem extS_lasting {g : Nat → Prop} {w w1 : World} (h : HeldS g w w1) : LastingS g w (fun x => Below w1.heap.size w1 x) where
  some := ⟨w1, Below.refl _ _⟩
  old := fun _ hx => h.trans (HeldS.of_below hx)
  on := fun _ _ hx hb => below_chain hx hb
theorem lastingS_self (g : Nat → Prop) (W : World) : LastingS g W (fun w => Below W.heap.size W w) := extS_lasting (HeldS.refl g W)
structure FamilyS (g : Nat → Prop) (W : World) (ι : Type) (φ : ι → World) : Prop where
  old : ∀ i, HeldS g W (φ i)
  on : ∀ i w', Below (φ i).heap.size (φ i) w' → ∃ j, w' = φ j
theorem familyS_of {g : Nat → Prop} {P : Program} {ops : Array Oper} {Q : Act → Prop} {l : List Oper} {a : Act} {W : World}
    (h : ∀ (ι : Type) [Nonempty ι] (φ : ι → World), FamilyS g W ι φ → wpQuiet P ops (fun w => ∃ i, w = φ i) Q l a) (C : World → Prop) (hC : LastingS g W C) : wpQuiet P ops C Q l a := by
  have e : C = fun w => ∃ i : { w : World // C w }, w = i.val := funext fun w => propext ⟨fun hw => ⟨⟨w, hw⟩, rfl⟩, fun ⟨i, hi⟩ => hi ▸ i.property⟩
  rw [e]
  obtain ⟨w0, h0⟩ := hC.some
  have : Nonempty { w : World // C w } := ⟨⟨w0, h0⟩⟩
  exact h _ _ ⟨fun i => hC.old _ i.property, fun i w' hw' => ⟨⟨w', hC.on _ _ i.property hw'⟩, rfl⟩⟩
theorem flowS_call {P : Program} {f : FuncId} {args : Array Value} {g : Nat → Prop} {W : World} {ι : Type} {φ : ι → World} {i : ι} {v : Value} (h : FamilyS g W ι φ)
    (hc : Calls P f args (φ i) fun e w' => e = .returned v ∧ Below (φ i).heap.size (φ i) w') : Calls P f args (φ i) fun e w' => e = .returned v ∧ ∃ j, w' = φ j :=
  hc.mono fun _ _ ⟨he, hb⟩ => ⟨he, h.on _ _ hb⟩
section
variable {P : Program} {ops : Array Oper} {md : Region.Mode} {W : World} {gb : Nat → Prop}
theorem walk_stepS {A a : Act} {o : Oper} {l : List Oper} {t : Nat} (hd : o.dst = some t) (ht : t < a.tmps.size) (hl : ∀ x, x ∈ l → x.dst ≠ some t)
    (h : ∀ C, LastingS gb W C → wpQuiet P ops C (fun a' => a' = A) (o :: l) a) :
    ∃ v, (∀ C, LastingS gb W C → YieldsIn P ops C o v a) ∧ ∀ C, LastingS gb W C → wpQuiet P ops C (fun a' => a' = A) l (a.put o.dst v) := by
  by_cases hw : Region.wanted o (yielded ops a.tmps) = true
  · have key : ∀ C, LastingS gb W C → ∃ u, A.tmps[t]? = some u ∧ YieldsIn P ops C o u a ∧ wpQuiet P ops C (fun a' => a' = A) l (a.put o.dst u) := fun C hC => by
      have h1 := h C hC
      unfold wpQuiet at h1
      rw [if_pos hw] at h1
      obtain ⟨u, h2, h3⟩ := h1
      refine ⟨u, ?_, .inl ⟨hw, h2⟩, h3⟩
      rw [walk_keeps l _ hl h3, hd, put_self ht]
    obtain ⟨v, hv, _⟩ := key _ (lastingS_self gb W)
    refine ⟨v, fun C hC => ?_, fun C hC => ?_⟩
    · obtain ⟨u, hu, h2, _⟩ := key C hC
      rw [hv] at hu
      rw [Option.some.inj hu]
      exact h2
    · obtain ⟨u, hu, _, h3⟩ := key C hC
      rw [hv] at hu
      rw [Option.some.inj hu]
      exact h3
  · refine ⟨undef, fun C _ => .inr ⟨by simpa using hw, rfl⟩, fun C hC => ?_⟩
    have h1 := h C hC
    unfold wpQuiet at h1
    rw [if_neg hw] at h1
    exact h1

end
section
variable {gb : Nat → Prop} {P : Program} {ops : Array Oper} {md : Region.Mode} {Q : Exit → Act → World → Prop}
/-- Whatever order is picked from here on, in whatever world that has new memory beside this one. -/
def wpT (gb : Nat → Prop) (P : Program) (md : Region.Mode) (ops : Array Oper) (Q : Exit → Act → World → Prop) (m : Nat) (L : Array Bool → Act → World → Prop) : Nat → Array Bool → Act → World → Prop
  | 0, listed, a, w => ∀ w1, Below w.heap.size w w1 → L listed a w1
  | f + 1, listed, a, w => ∀ w1, Below w.heap.size w w1 → Region.ready md ops listed ≠ [] ∧ ∀ i, i ∈ Region.ready md ops listed → i < m ∧
      wpOp P ops Q i (fun a' w' => HeldS gb w1 w' ∧ wpT gb P md ops Q m L f (listed.setIfInBounds i true) a' w') a w1


variable {m : Nat} {L : Array Bool → Act → World → Prop}
theorem wpT_up {f : Nat} {listed : Array Bool} {a : Act} {w w' : World} (hb : Below w.heap.size w w') (h : wpT gb P md ops Q m L f listed a w) : wpT gb P md ops Q m L f listed a w' := by
  cases f with
  | zero => exact fun w1 h1 => h w1 (below_chain hb h1)
  | succ f => exact fun w1 h1 => h w1 (below_chain hb h1)

theorem wpAny_of_T {g : Nat} (hL : ∀ listed a w, L listed a w → wpAny P md ops Q g listed a w) : ∀ (f : Nat) (listed : Array Bool) (a : Act) (w : World), wpT gb P md ops Q m L f listed a w → wpAny P md ops Q (f + g) listed a w
  | 0, listed, a, w, h => by rw [Nat.zero_add]; exact hL _ _ _ (h w (Below.refl _ _))
  | f + 1, listed, a, w, h => by
    rw [show f + 1 + g = (f + g) + 1 by omega]
    have h1 := h w (Below.refl _ _)
    exact ⟨fun h0 => absurd h0 h1.1, fun i hi => wpOp_mono (fun a' w' hk => wpAny_of_T hL f _ a' w' hk.2) (h1.2 i hi).2⟩

/-- What yields one value may be taken first. -/
theorem wpT_first {i : Nat} {oi : Oper} {v : Value} (hi : ops[i]? = some oi) (hsel : ∀ (j : Nat) (o : Oper) cs b, ops[j]? = some o → o.op ≠ .select cs b) (him : i < m)
    (hQ : ∀ c a w, ¬ Q (.panic c) a w) (hL : ∀ listed a w, L listed a w → ∀ j, j ∈ Region.ready md ops listed → m ≤ j) (hH : ∀ listed, HeadInv md ops m listed → Heads md ops m listed) :
    ∀ (f : Nat) (listed : Array Bool) (a : Act) (w : World), HeadInv md ops m listed →
      (∀ j oj, ops[j]? = some oj → j ≠ i → listed.getD j true = false → (∀ e ∈ oj.after, Region.binds md e = true → e.on ≠ i) → oi.apart ops oj = true) →
      i ∈ Region.ready md ops listed → (∀ C, LastingS gb w C → YieldsIn P ops C oi v a) →
      wpT gb P md ops Q m L f (listed.setIfInBounds i true) (a.put oi.dst v) w → wpT gb P md ops Q m L (f + 1) listed a w := by
  intro f
  induction f with
  | zero =>
    intro listed a w inv hfree hr hy H w1 hw1
    refine ⟨fun h => (by rw [h] at hr; cases hr), fun j hj => ?_⟩
    have hjm : j < m := hH listed inv i him (mem_ready.1 hr).1 j hj
    refine ⟨hjm, ?_⟩
    by_cases hji : j = i
    · subst hji
      have hq : qOp P ops (fun x => Below w1.heap.size w1 x) j (fun a' => a' = a.put oi.dst v) a := (hy _ (extS_lasting (HeldS.of_below hw1))).qOp hi rfl
      exact wpOp_of_qOp (Below.refl _ _) (fun a' w' hw' he => by subst he; exact ⟨HeldS.of_below hw', wpT_up (below_chain hw1 hw') H⟩) hq
    · have := hL _ _ _ (H w1 hw1) j (ready_mono hj hji)
      omega
  | succ f ih =>
    intro listed a w inv hfree hr hy H w1 hw1
    refine ⟨fun h => (by rw [h] at hr; cases hr), fun j hj => ?_⟩
    have hjm : j < m := hH listed inv i him (mem_ready.1 hr).1 j hj
    refine ⟨hjm, ?_⟩
    by_cases hji : j = i
    · subst hji
      have hq : qOp P ops (fun x => Below w1.heap.size w1 x) j (fun a' => a' = a.put oi.dst v) a := (hy _ (extS_lasting (HeldS.of_below hw1))).qOp hi rfl
      exact wpOp_of_qOp (Below.refl _ _) (fun a' w' hw' he => by subst he; exact ⟨HeldS.of_below hw', wpT_up (below_chain hw1 hw') H⟩) hq
    · obtain ⟨hjun, oj, hoj, hall⟩ := mem_ready.1 hj
      have hap := hfree j oj hoj hji hjun (hnot_of hr hall)
      have h3 := (Oper.apart_spec hap).2.2
      have hsi := fun cs b => hsel i oi cs b hi
      have hfree' : ∀ k ok, ops[k]? = some ok → k ≠ i → (listed.setIfInBounds j true).getD k true = false →
          (∀ e ∈ ok.after, Region.binds md e = true → e.on ≠ i) → oi.apart ops ok = true := fun k ok hk hki hun hno => by
        refine hfree k ok hk hki ?_ hno
        by_cases hjk : j = k
        · subst hjk; exact hjun
        · rw [getD_set_ne true hjk] at hun; exact hun
      have H1 := ((H w1 hw1).2 j (ready_mono hj hji)).2
      refine wpOp_mono (fun a' w' hk => ⟨hk.2.1, ih _ _ _ (inv.set hj hjm) hfree' (ready_mono hr (Ne.symm hji)) (fun C hC => hk.1 C ?_) ?_⟩)
        (wpOp_swap (R := fun a' => ∀ C, LastingS gb w C → YieldsIn P ops C oi v a') hoj hap (fun cs b => hsel j oj cs b hoj) hQ
          (fun a' u hR C hC => (hR C hC).of_same (execOp_put oi hsi a' oj.dst u h3) (wanted_put oi a' oj.dst u h3)) (fun a' d hR C hC => (hR C hC).of_same rfl rfl) hy H1)
      · rw [Array.setIfInBounds_comm _ _ hji]
        exact hk.2.2
      · have hb := (HeldS.of_below (g := gb) hw1).trans hk.2.1
        exact ⟨hC.some, fun x hx => hb.trans (hC.old x hx), hC.on⟩

theorem wpT_batch {A : Act} (hsel : Region.noSelect ops = true) (hQ : ∀ c a w, ¬ Q (.panic c) a w) (hL : ∀ listed a w, L listed a w → ∀ j, j ∈ Region.ready md ops listed → m ≤ j) (hH : ∀ listed, HeadInv md ops m listed → Heads md ops m listed) {f : Nat} {w : World} :
    ∀ (idx : List Nat) (l : List Oper) (listed : Array Bool) (a : Act), idx.map (ops[·]?) = l.map some → takeB md ops m idx listed = true → dstsOK a.tmps.size l = true → HeadInv md ops m listed →
      (∀ C, LastingS gb w C → wpQuiet P ops C (fun a' => a' = A) l a) → (HeadInv md ops m (listing listed idx) → wpT gb P md ops Q m L f (listing listed idx) A w) → wpT gb P md ops Q m L (f + idx.length) listed a w
  | [], l, listed, a, hl, _, _, inv, h, H => by
    obtain rfl : l = [] := by simpa using hl.symm
    have e : a = A := h _ (lastingS_self gb w)
    rw [e]
    exact H inv
  | i :: idx, [], listed, a, hl, _, _, _, _, _ => by simp at hl
  | i :: idx, o :: l, listed, a, hl, hB, hD, inv, h, H => by
    simp only [List.map_cons, List.cons.injEq] at hl
    obtain ⟨ho, hl⟩ := hl
    simp only [takeB, Bool.and_eq_true, decide_eq_true_eq] at hB
    obtain ⟨⟨⟨him, hr⟩, hf⟩, hB'⟩ := hB
    have hr' : i ∈ Region.ready md ops listed := by simpa using hr
    cases hd : o.dst with
    | none => simp [dstsOK, hd] at hD
    | some t =>
      simp only [dstsOK, hd, Bool.and_eq_true, decide_eq_true_eq, List.all_eq_true, bne_iff_ne] at hD
      obtain ⟨⟨ht, hne⟩, hD'⟩ := hD
      obtain ⟨v, hy, hrest⟩ := walk_stepS hd ht hne h
      rw [show f + (i :: idx).length = (f + idx.length) + 1 by simp only [List.length_cons]; omega]
      exact wpT_first ho (Region.noSelect_spec hsel) him hQ hL hH _ listed a w inv (Region.free_spec ho hf) hr' hy
        (wpT_batch hsel hQ hL hH idx l _ _ hl hB' (by rw [put_size]; exact hD') (inv.set hr' him) hrest H)
end

/-- Where a walk of a region stands: what has come up, how many are to come up ahead of the stores. -/
def SegS (gb : Nat → Prop) (P : Program) (l : List Oper) (Q : Exit → Act → World → Prop) (m f : Nat) (listed : Array Bool) (a : Act) (w : World) : Prop :=
  HeadInv .any l.toArray m listed → wpT gb P .any l.toArray (Calm Q) m (fun listed' a' w' => Region.seqB .any l.toArray (l.length - m) m listed' = true ∧ wpList P l.toArray (Calm Q) (l.drop m) a' w') f listed a w

/-- THE BEGINNING. -/
theorem segS_start {gb : Nat → Prop} {P : Program} {id : Nat} {Q : Exit → Act → World → Prop} {a : Act} {W : World} {l : List Oper} (m : Nat) (hm : P.follows .mixedOrders = true) (hml : m ≤ l.length)
    (h : ∀ w, Below W.heap.size W w → SegS gb P l Q m m (Array.replicate l.length false) a w) : (Code.region id l.toArray true).wp P Q a W := by
  refine Code.wp_mono Calm.imp (wp_region_any hm ?_)
  have inv0 : HeadInv .any l.toArray m (Array.replicate l.length false) :=
    ⟨by simp, fun j oj _ hl => (by rw [getD_replicate_false] at hl; cases hl), fun t _ ht => getD_in (by simpa using ht) (getD_replicate_false _ _)⟩
  have H := wpAny_of_T (g := l.length - m) (fun listed a w hL => by
    have := wpAny_of_seq (md := .any) (Q' := Calm Q) (l.drop m) m listed a w (fun j => by simp [List.getElem?_drop]) (by rw [List.length_drop]; exact hL.1) hL.2
    rwa [List.length_drop] at this) m _ a W.drew (h W.drew (Below.refl _ _).drew inv0)
  rw [show m + (l.length - m) = l.toArray.size by simp; omega] at H
  simpa using H

/-- SOME YIELD VALUES, wherever there is only new memory. -/
theorem segS_batch {gb : Nat → Prop} {P : Program} {Q : Exit → Act → World → Prop} {a : Act} {w : World} {l : List Oper} {m F : Nat} {listed : Array Bool} (f : Nat) (idx : List Nat) (hS : segB l m = true) (hF : F = f + idx.length)
    (hl : (pick l idx).length = idx.length) (hB : takeB .any l.toArray m idx listed = true) (hD : dstsOK a.tmps.size (pick l idx) = true)
    (h : ∃ A, (∀ (ι : Type) [Nonempty ι] (φ : ι → World), FamilyS gb w ι φ → wpQuiet P l.toArray (fun x => ∃ i, x = φ i) (fun a' => a' = A) (pick l idx) a) ∧
      ∀ w', Below w.heap.size w w' → SegS gb P l Q m f (listing listed idx) A w') : SegS gb P l Q m F listed a w := by
  intro inv
  obtain ⟨A, hA, hT⟩ := h
  obtain ⟨h1, h2⟩ := heads_of hS
  subst hF
  exact wpT_batch h1 (fun c a w h => h) (fun listed a w hL => seqB_ready hL.1) h2 idx (pick l idx) listed a (by simpa using pick_all hl) hB hD inv (familyS_of hA) (fun inv' => hT w (Below.refl _ _) inv')

/-- ONE ALONE MAY COME UP: it is done in the world at hand. -/
theorem segS_one {gb : Nat → Prop} {P : Program} {Q : Exit → Act → World → Prop} {a : Act} {w : World} {l : List Oper} {m f : Nat} {listed : Array Bool} (i : Nat) (o : Oper) (him : i < m) (ho : l[i]? = some o) (hr : Region.ready .any l.toArray listed = [i])
    (h : ∀ (w1 : World) (K : Act → World → Prop), Below w.heap.size w w1 → (∀ a' w', HeldS gb w1 w' → SegS gb P l Q m f (listed.setIfInBounds i true) a' w' → K a' w') →
      if Region.wanted o (yielded l.toArray a.tmps) then o.wp P a w1 K (Calm Q) else K (a.put o.dst undef) w1) : SegS gb P l Q m (f + 1) listed a w := by
  intro inv w1 hw1
  refine ⟨by rw [hr]; simp, fun j hj => ?_⟩
  rw [hr] at hj
  obtain rfl : j = i := by simpa using hj
  refine ⟨him, ?_⟩
  have hj' : j ∈ Region.ready .any l.toArray listed := by rw [hr]; simp
  have hk := h w1 (fun a' w' => HeldS gb w1 w' ∧ wpT gb P .any l.toArray (Calm Q) m _ f (listed.setIfInBounds j true) a' w') hw1 (fun a' w' hb hs => ⟨hb, hs (inv.set hj' him)⟩)
  unfold wpOp
  have ho' : l.toArray[j]? = some o := by simpa using ho
  simp only [ho']
  split
  · rename_i hw; rw [if_pos hw] at hk; exact .inl hk
  · rename_i hw; rw [if_neg hw] at hk; exact hk

/-- SOME MAY COME UP: each is done in the world at hand. -/
theorem segS_more {gb : Nat → Prop} {P : Program} {Q : Exit → Act → World → Prop} {a : Act} {w : World} {l : List Oper} {m f : Nat} {listed : Array Bool} (R : List Nat) (hr : Region.ready .any l.toArray listed = R) (hR : R ≠ [])
    (h : ∀ i, i ∈ R → i < m ∧ ∃ o, l[i]? = some o ∧ ∀ (w1 : World) (K : Act → World → Prop), Below w.heap.size w w1 → (∀ a' w', HeldS gb w1 w' → SegS gb P l Q m f (listed.setIfInBounds i true) a' w' → K a' w') →
      if Region.wanted o (yielded l.toArray a.tmps) then o.wp P a w1 K (Calm Q) else K (a.put o.dst undef) w1) : SegS gb P l Q m (f + 1) listed a w := by
  intro inv w1 hw1
  refine ⟨by rw [hr]; exact hR, fun j hj => ?_⟩
  rw [hr] at hj
  obtain ⟨him, o, ho, h⟩ := h j hj
  refine ⟨him, ?_⟩
  have hj' : j ∈ Region.ready .any l.toArray listed := by rw [hr]; exact hj
  have hk := h w1 (fun a' w' => HeldS gb w1 w' ∧ wpT gb P .any l.toArray (Calm Q) m _ f (listed.setIfInBounds j true) a' w') hw1 (fun a' w' hb hs => ⟨hb, hs (inv.set hj' him)⟩)
  unfold wpOp
  have ho' : l.toArray[j]? = some o := by simpa using ho
  simp only [ho']
  split
  · rename_i hw; rw [if_pos hw] at hk; exact .inl hk
  · rename_i hw; rw [if_neg hw] at hk; exact hk

/-- THE STORES, in their forced order. -/
theorem segS_tail {gb : Nat → Prop} {P : Program} {Q : Exit → Act → World → Prop} {a : Act} {w : World} {l : List Oper} {m : Nat} {listed : Array Bool} (hB : Region.seqB .any l.toArray (l.length - m) m listed = true)
    (h : ∀ w1, Below w.heap.size w w1 → wpList P l.toArray (Calm Q) (l.drop m) a w1) : SegS gb P l Q m 0 listed a w :=
  fun _ w1 hw1 => ⟨hB, h w1 hw1⟩
/-- ALL HAVE COME UP. -/
theorem segS_done {gb : Nat → Prop} {P : Program} {Q : Exit → Act → World → Prop} {a : Act} {w : World} {l : List Oper} {m : Nat} {listed : Array Bool} (hm : m = l.length) (hB : Region.seqB .any l.toArray 0 m listed = true)
    (h : ∀ w1, Below w.heap.size w w1 → Q .normal a w1) : SegS gb P l Q m 0 listed a w := by
  refine fun _ w1 hw1 => ⟨by rw [hm, Nat.sub_self]; rw [hm] at hB; exact hB, ?_⟩
  rw [hm, List.drop_length]
  exact h w1 hw1
end Go.Proofs.YtebgfelbffgnbaaGreatDoor.Flow
