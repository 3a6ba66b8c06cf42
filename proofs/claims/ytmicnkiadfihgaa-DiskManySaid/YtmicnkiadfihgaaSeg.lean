/-
  A law of our own on regions that draw their order, for values that hang on the world: the walk goes in segments: in each, what yields one value wherever there is only new memory is taken first, in an order of our choice; where a single operation is left to come up (a call that answers new memory, a new variable), it is done in the world at hand; stores come at the end, in one forced order.
-/
import Derived.Test.YtmicnkiadfihgaaFlow
namespace Go.Proofs.Ytmicnkiadfihgaa.Flow
open Go Go.RowKit

/-- Q, and no way out by a panic. -/
def Calm (Q : Exit → Act → World → Prop) : Exit → Act → World → Prop
  | .panic _, _, _ => False
  | e, a, w => Q e a w
theorem Calm.imp {Q : Exit → Act → World → Prop} (e : Exit) (a : Act) (w : World) (h : Calm Q e a w) : Q e a w := by
  cases e <;> first | exact h | exact (h : False).elim

section
variable {P : Program} {ops : Array Oper} {md : Region.Mode} {Q : Exit → Act → World → Prop}

/-- One operation apart from another: the other's value may be put behind it. -/
theorem wpOp_swap {j : Nat} {oi oj : Oper} {v : Value} (hj : ops[j]? = some oj) (hap : oi.apart ops oj = true) (hsj : ∀ cs b, oj.op ≠ .select cs b)
    (hQ : ∀ c a w, ¬ Q (.panic c) a w) {R : Act → Prop} {K : Act → World → Prop} {a : Act} {w : World} (hR : ∀ a u, R a → R (a.put oj.dst u)) (hRd : ∀ (a : Act) d, R a → R { a with defers := d :: a.defers })
    (ha : R a) (h : wpOp P ops Q j K (a.put oi.dst v) w) : wpOp P ops Q j (fun a' w' => R a' ∧ K (a'.put oi.dst v) w') a w := by
  obtain ⟨h1, h2, h3⟩ := Oper.apart_spec hap
  unfold wpOp at *
  simp only [hj] at *
  rw [wanted_put oj a oi.dst v h1] at h
  by_cases hw : Region.wanted oj (yielded ops a.tmps) = true
  · rw [if_pos hw] at h ⊢
    rcases h with h | ⟨hasks, hlets⟩
    · refine .inl ?_
      unfold Oper.wp at *
      rw [execOp_put oj hsj a oi.dst v h1] at h
      generalize (execOp a.eval oj).run P w = r at *
      match r, h with
      | .ok (.value u) w', h => exact ⟨hR _ _ ha, by rw [← Act.put_comm a v u h2]; exact h⟩
      | .ok .skip w', h => exact ⟨hR _ _ ha, by rw [← Act.put_comm a v undef h2]; exact h⟩
      | .ok (.defer d) w', h =>
        refine ⟨hR _ _ (hRd _ _ ha), ?_⟩
        rw [← Act.put_comm _ v undef h2, ← Act.put_defers]
        exact h
      | .ok (.enter f args) w', h =>
        refine Calls.mono h fun e w'' he => ?_
        cases e with
        | returned u => exact ⟨hR _ _ ha, by rw [← Act.put_comm a v u h2]; exact he⟩
        | panicked c => exact (hQ _ _ _ he).elim
        | outgrown => exact he
      | .ok (.row row args) w', h => exact Rows.mono h fun u w'' he => ⟨hR _ _ ha, by rw [← Act.put_comm a v u h2]; exact he⟩
      | .halt x w', h =>
        cases x <;> simp only [Oper.upon] at h ⊢
        case panic u => exact (hQ _ _ _ h).elim
    · exact .inr ⟨by unfold Oper.asks at *; rw [execOp_put oj hsj a oi.dst v h1] at hasks; exact hasks, hlets⟩
  · rw [if_neg hw] at h ⊢
    exact ⟨hR _ _ ha, by rw [← Act.put_comm a v undef h2]; exact h⟩

/-- Whatever order is picked from here on, in whatever world that has new memory beside this one. -/
def wpB (P : Program) (md : Region.Mode) (ops : Array Oper) (Q : Exit → Act → World → Prop) (m : Nat) (L : Array Bool → Act → World → Prop) : Nat → Array Bool → Act → World → Prop
  | 0, listed, a, w => ∀ w1, Below w.heap.size w w1 → L listed a w1
  | f + 1, listed, a, w => ∀ w1, Below w.heap.size w w1 → Region.ready md ops listed ≠ [] ∧ ∀ i, i ∈ Region.ready md ops listed → i < m ∧
      wpOp P ops Q i (fun a' w' => Below w1.heap.size w1 w' ∧ wpB P md ops Q m L f (listed.setIfInBounds i true) a' w') a w1

theorem below_chain {w w1 w2 : World} (h : Below w.heap.size w w1) (h2 : Below w1.heap.size w1 w2) : Below w.heap.size w w2 := h.trans (h2.mono h.size)

variable {m : Nat} {L : Array Bool → Act → World → Prop}
theorem wpB_up {f : Nat} {listed : Array Bool} {a : Act} {w w' : World} (hb : Below w.heap.size w w') (h : wpB P md ops Q m L f listed a w) : wpB P md ops Q m L f listed a w' := by
  cases f with
  | zero => exact fun w1 h1 => h w1 (below_chain hb h1)
  | succ f => exact fun w1 h1 => h w1 (below_chain hb h1)

theorem wpAny_of_B {g : Nat} (hL : ∀ listed a w, L listed a w → wpAny P md ops Q g listed a w) : ∀ (f : Nat) (listed : Array Bool) (a : Act) (w : World), wpB P md ops Q m L f listed a w → wpAny P md ops Q (f + g) listed a w
  | 0, listed, a, w, h => by rw [Nat.zero_add]; exact hL _ _ _ (h w (Below.refl _ _))
  | f + 1, listed, a, w, h => by
    rw [show f + 1 + g = (f + g) + 1 by omega]
    have h1 := h w (Below.refl _ _)
    exact ⟨fun h0 => absurd h0 h1.1, fun i hi => wpOp_mono (fun a' w' hk => wpAny_of_B hL f _ a' w' hk.2) (h1.2 i hi).2⟩

theorem ext_lasting {w w1 : World} (h : Below w.heap.size w w1) : Lasting w (fun x => Below w1.heap.size w1 x) where
  some := ⟨w1, Below.refl _ _⟩
  old := fun _ hx => below_chain h hx
  on := fun _ _ hx hb => below_chain hx hb

/-- What yields one value may be taken first. -/
theorem wpB_first {i : Nat} {oi : Oper} {v : Value} (hi : ops[i]? = some oi) (hsel : ∀ (j : Nat) (o : Oper) cs b, ops[j]? = some o → o.op ≠ .select cs b) (him : i < m)
    (hQ : ∀ c a w, ¬ Q (.panic c) a w) (hL : ∀ listed a w, L listed a w → ∀ j, j ∈ Region.ready md ops listed → m ≤ j) (hH : ∀ listed, HeadInv md ops m listed → Heads md ops m listed) :
    ∀ (f : Nat) (listed : Array Bool) (a : Act) (w : World), HeadInv md ops m listed →
      (∀ j oj, ops[j]? = some oj → j ≠ i → listed.getD j true = false → (∀ e ∈ oj.after, Region.binds md e = true → e.on ≠ i) → oi.apart ops oj = true) →
      i ∈ Region.ready md ops listed → (∀ C, Lasting w C → YieldsIn P ops C oi v a) →
      wpB P md ops Q m L f (listed.setIfInBounds i true) (a.put oi.dst v) w → wpB P md ops Q m L (f + 1) listed a w := by
  intro f
  induction f with
  | zero =>
    intro listed a w inv hfree hr hy H w1 hw1
    refine ⟨fun h => (by rw [h] at hr; cases hr), fun j hj => ?_⟩
    have hjm : j < m := hH listed inv i him (mem_ready.1 hr).1 j hj
    refine ⟨hjm, ?_⟩
    by_cases hji : j = i
    · subst hji
      have hq : qOp P ops (fun x => Below w1.heap.size w1 x) j (fun a' => a' = a.put oi.dst v) a := (hy _ (ext_lasting hw1)).qOp hi rfl
      exact wpOp_of_qOp (Below.refl _ _) (fun a' w' hw' he => by subst he; exact ⟨hw', wpB_up (below_chain hw1 hw') H⟩) hq
    · have := hL _ _ _ (H w1 hw1) j (ready_mono hj hji)
      omega
  | succ f ih =>
    intro listed a w inv hfree hr hy H w1 hw1
    refine ⟨fun h => (by rw [h] at hr; cases hr), fun j hj => ?_⟩
    have hjm : j < m := hH listed inv i him (mem_ready.1 hr).1 j hj
    refine ⟨hjm, ?_⟩
    by_cases hji : j = i
    · subst hji
      have hq : qOp P ops (fun x => Below w1.heap.size w1 x) j (fun a' => a' = a.put oi.dst v) a := (hy _ (ext_lasting hw1)).qOp hi rfl
      exact wpOp_of_qOp (Below.refl _ _) (fun a' w' hw' he => by subst he; exact ⟨hw', wpB_up (below_chain hw1 hw') H⟩) hq
    · obtain ⟨hjun, oj, hoj, hall⟩ := mem_ready.1 hj
      have hap := hfree j oj hoj hji hjun (hnot_of hr hall)
      have h3 := (Oper.apart_spec hap).2.2
      have hsi := fun cs b => hsel i oi cs b hi
      have hfree' : ∀ k ok, ops[k]? = some ok → k ≠ i → (listed.setIfInBounds j true).getD k true = false →
          (∀ e ∈ ok.after, Region.binds md e = true → e.on ≠ i) → oi.apart ops ok = true := fun k ok hk hki hun hno => by
        refine hfree k ok hk hki ?_ hno
        by_cases hjk : j = k
        · subst hjk; exact hjun
        · rw [getD_set_ne true hjk] at hun; exact hun
      have H1 := ((H w1 hw1).2 j (ready_mono hj hji)).2
      refine wpOp_mono (fun a' w' hk => ⟨hk.2.1, ih _ _ _ (inv.set hj hjm) hfree' (ready_mono hr (Ne.symm hji)) (fun C hC => hk.1 C ?_) ?_⟩)
        (wpOp_swap (R := fun a' => ∀ C, Lasting w C → YieldsIn P ops C oi v a') hoj hap (fun cs b => hsel j oj cs b hoj) hQ
          (fun a' u hR C hC => (hR C hC).of_same (execOp_put oi hsi a' oj.dst u h3) (wanted_put oi a' oj.dst u h3)) (fun a' d hR C hC => (hR C hC).of_same rfl rfl) hy H1)
      · rw [Array.setIfInBounds_comm _ _ hji]
        exact hk.2.2
      · have hb := below_chain hw1 hk.2.1
        exact ⟨hC.some, fun x hx => below_chain hb (hC.old x hx), hC.on⟩

/-- These may be taken one behind the other. -/
def takeB (md : Region.Mode) (ops : Array Oper) (m : Nat) : List Nat → Array Bool → Bool
  | [], _ => true
  | i :: r, listed => decide (i < m) && (Region.ready md ops listed).contains i && Region.free md ops listed i && takeB md ops m r (listed.setIfInBounds i true)

def listing (listed : Array Bool) (idx : List Nat) : Array Bool := idx.foldl (fun l i => l.setIfInBounds i true) listed

theorem wpB_batch {A : Act} (hsel : Region.noSelect ops = true) (hQ : ∀ c a w, ¬ Q (.panic c) a w) (hL : ∀ listed a w, L listed a w → ∀ j, j ∈ Region.ready md ops listed → m ≤ j) (hH : ∀ listed, HeadInv md ops m listed → Heads md ops m listed) {f : Nat} {w : World} :
    ∀ (idx : List Nat) (l : List Oper) (listed : Array Bool) (a : Act), idx.map (ops[·]?) = l.map some → takeB md ops m idx listed = true → dstsOK a.tmps.size l = true → HeadInv md ops m listed →
      (∀ C, Lasting w C → wpQuiet P ops C (fun a' => a' = A) l a) → (HeadInv md ops m (listing listed idx) → wpB P md ops Q m L f (listing listed idx) A w) → wpB P md ops Q m L (f + idx.length) listed a w
  | [], l, listed, a, hl, _, _, inv, h, H => by
    obtain rfl : l = [] := by simpa using hl.symm
    have e : a = A := h _ (Has.lasting (W := w) (objs := fun _ => .cells #[] 0) (F := []) (w := w) ⟨Below.refl _ _, fun x hx => by cases hx⟩)
    rw [e]
    exact H inv
  | i :: idx, [], listed, a, hl, _, _, _, _, _ => by simp at hl
  | i :: idx, o :: l, listed, a, hl, hB, hD, inv, h, H => by
    simp only [List.map_cons, List.cons.injEq] at hl
    obtain ⟨ho, hl⟩ := hl
    simp only [takeB, Bool.and_eq_true, decide_eq_true_eq] at hB
    obtain ⟨⟨⟨him, hr⟩, hf⟩, hB'⟩ := hB
    have hr' : i ∈ Region.ready md ops listed := by simpa using hr
    cases hd : o.dst with
    | none => simp [dstsOK, hd] at hD
    | some t =>
      simp only [dstsOK, hd, Bool.and_eq_true, decide_eq_true_eq, List.all_eq_true, bne_iff_ne] at hD
      obtain ⟨⟨ht, hne⟩, hD'⟩ := hD
      obtain ⟨v, hy, hrest⟩ := walk_step hd ht hne h
      rw [show f + (i :: idx).length = (f + idx.length) + 1 by simp only [List.length_cons]; omega]
      exact wpB_first ho (Region.noSelect_spec hsel) him hQ hL hH _ listed a w inv (Region.free_spec ho hf) hr' hy
        (wpB_batch hsel hQ hL hH idx l _ _ hl hB' (by rw [put_size]; exact hD') (inv.set hr' him) hrest H)
end

/-- Where a walk of a region stands: what has come up, how many are to come up ahead of the stores. -/
def Seg (P : Program) (l : List Oper) (Q : Exit → Act → World → Prop) (m f : Nat) (listed : Array Bool) (a : Act) (w : World) : Prop :=
  HeadInv .any l.toArray m listed → wpB P .any l.toArray (Calm Q) m (fun listed' a' w' => Region.seqB .any l.toArray (l.length - m) m listed' = true ∧ wpList P l.toArray (Calm Q) (l.drop m) a' w') f listed a w

/-- The checks on a region whose first m operations are free. -/
def segB (l : List Oper) (m : Nat) : Bool :=
  Region.noSelect l.toArray && (decide (m = l.length) || (decide (m < l.length) && Region.sinkB .any l.toArray m && Region.chainB .any l.toArray m))

theorem heads_of {l : List Oper} {m : Nat} (h : segB l m = true) : Region.noSelect l.toArray = true ∧ ∀ listed, HeadInv .any l.toArray m listed → Heads .any l.toArray m listed := by
  simp only [segB, Bool.and_eq_true, Bool.or_eq_true, decide_eq_true_eq] at h
  refine ⟨h.1, fun listed inv i him hun j hj => ?_⟩
  rcases h.2 with h2 | ⟨⟨h2, hs⟩, hc⟩
  · obtain ⟨_, o, ho, _⟩ := mem_ready.1 hj
    have := (Array.getElem?_eq_some_iff.1 ho).1
    simp at this
    omega
  · rcases Nat.lt_or_ge j m with h | h
    · exact h
    · exact absurd hj (tail_waits hs hc (by simpa using h2) inv _ i rfl him hun j h)

/-- THE BEGINNING. -/
theorem seg_start {P : Program} {id : Nat} {Q : Exit → Act → World → Prop} {a : Act} {W : World} {l : List Oper} (m : Nat) (hm : P.follows .mixedOrders = true) (hml : m ≤ l.length)
    (h : ∀ w, Below W.heap.size W w → Seg P l Q m m (Array.replicate l.length false) a w) : (Code.region id l.toArray true).wp P Q a W := by
  refine Code.wp_mono Calm.imp (wp_region_any hm ?_)
  have inv0 : HeadInv .any l.toArray m (Array.replicate l.length false) :=
    ⟨by simp, fun j oj _ hl => (by rw [getD_replicate_false] at hl; cases hl), fun t _ ht => getD_in (by simpa using ht) (getD_replicate_false _ _)⟩
  have H := wpAny_of_B (g := l.length - m) (fun listed a w hL => by
    have := wpAny_of_seq (md := .any) (Q' := Calm Q) (l.drop m) m listed a w (fun j => by simp [List.getElem?_drop]) (by rw [List.length_drop]; exact hL.1) hL.2
    rwa [List.length_drop] at this) m _ a W.drew (h W.drew (Below.refl _ _).drew inv0)
  rw [show m + (l.length - m) = l.toArray.size by simp; omega] at H
  simpa using H

/-- The operations of these numbers. -/
def pick (l : List Oper) (idx : List Nat) : List Oper := idx.filterMap (l[·]?)
theorem pick_all {l : List Oper} : ∀ {idx : List Nat}, (pick l idx).length = idx.length → idx.map (l[·]?) = (pick l idx).map some
  | [], _ => rfl
  | i :: idx, h => by
    unfold pick at h ⊢
    cases hi : l[i]? with
    | none =>
      have h2 := List.length_filterMap_le (fun x => l[x]?) idx
      have h3 : (List.filterMap (fun x => l[x]?) (i :: idx)).length = (List.filterMap (fun x => l[x]?) idx).length := by rw [List.filterMap_cons_none hi]
      have h4 : (List.filterMap (fun x => l[x]?) (i :: idx)).length = idx.length + 1 := h
      omega
    | some o =>
      rw [List.filterMap_cons_some hi] at h ⊢
      simp only [List.length_cons, Nat.succ.injEq] at h
      rw [List.map_cons, List.map_cons, hi, pick_all h]
      rfl

theorem pick_step {P : Program} {ops : Array Oper} {C : World → Prop} {Q : Act → Prop} {l : List Oper} {i : Nat} {idx : List Nat} {o : Oper} {a : Act} (ho : l[i]? = some o) (h : wpQuiet P ops C Q (o :: pick l idx) a) :
    wpQuiet P ops C Q (pick l (i :: idx)) a := by
  have e : pick l (i :: idx) = o :: pick l idx := List.filterMap_cons_some ho
  rw [e]; exact h
theorem pick_end {P : Program} {ops : Array Oper} {C : World → Prop} {l : List Oper} {a : Act} : wpQuiet P ops C (fun a' => a' = a) (pick l []) a := wpQuiet_nil rfl

/-- SOME YIELD VALUES, wherever there is only new memory. -/
theorem seg_batch {P : Program} {Q : Exit → Act → World → Prop} {a : Act} {w : World} {l : List Oper} {m F : Nat} {listed : Array Bool} (f : Nat) (idx : List Nat) (hS : segB l m = true) (hF : F = f + idx.length)
    (hl : (pick l idx).length = idx.length) (hB : takeB .any l.toArray m idx listed = true) (hD : dstsOK a.tmps.size (pick l idx) = true)
    (h : ∃ A, (∀ (ι : Type) [Nonempty ι] (φ : ι → World), Family w ι φ → wpQuiet P l.toArray (fun x => ∃ i, x = φ i) (fun a' => a' = A) (pick l idx) a) ∧
      ∀ w', Below w.heap.size w w' → Seg P l Q m f (listing listed idx) A w') : Seg P l Q m F listed a w := by
  intro inv
  obtain ⟨A, hA, hT⟩ := h
  obtain ⟨h1, h2⟩ := heads_of hS
  subst hF
  exact wpB_batch h1 (fun c a w h => h) (fun listed a w hL => seqB_ready hL.1) h2 idx (pick l idx) listed a (by simpa using pick_all hl) hB hD inv (family_of hA) (fun inv' => hT w (Below.refl _ _) inv')

/-- ONE ALONE MAY COME UP: it is done in the world at hand. -/
theorem seg_one {P : Program} {Q : Exit → Act → World → Prop} {a : Act} {w : World} {l : List Oper} {m f : Nat} {listed : Array Bool} (i : Nat) (o : Oper) (him : i < m) (ho : l[i]? = some o) (hr : Region.ready .any l.toArray listed = [i])
    (h : ∀ (w1 : World) (K : Act → World → Prop), Below w.heap.size w w1 → (∀ a' w', Below w1.heap.size w1 w' → Seg P l Q m f (listed.setIfInBounds i true) a' w' → K a' w') →
      if Region.wanted o (yielded l.toArray a.tmps) then o.wp P a w1 K (Calm Q) else K (a.put o.dst undef) w1) : Seg P l Q m (f + 1) listed a w := by
  intro inv w1 hw1
  refine ⟨by rw [hr]; simp, fun j hj => ?_⟩
  rw [hr] at hj
  obtain rfl : j = i := by simpa using hj
  refine ⟨him, ?_⟩
  have hj' : j ∈ Region.ready .any l.toArray listed := by rw [hr]; simp
  have hk := h w1 (fun a' w' => Below w1.heap.size w1 w' ∧ wpB P .any l.toArray (Calm Q) m _ f (listed.setIfInBounds j true) a' w') hw1 (fun a' w' hb hs => ⟨hb, hs (inv.set hj' him)⟩)
  unfold wpOp
  have ho' : l.toArray[j]? = some o := by simpa using ho
  simp only [ho']
  split
  · rename_i hw; rw [if_pos hw] at hk; exact .inl hk
  · rename_i hw; rw [if_neg hw] at hk; exact hk

/-- THE STORES, in their forced order. -/
theorem seg_tail {P : Program} {Q : Exit → Act → World → Prop} {a : Act} {w : World} {l : List Oper} {m : Nat} {listed : Array Bool} (hB : Region.seqB .any l.toArray (l.length - m) m listed = true)
    (h : ∀ w1, Below w.heap.size w w1 → wpList P l.toArray (Calm Q) (l.drop m) a w1) : Seg P l Q m 0 listed a w :=
  fun _ w1 hw1 => ⟨hB, h w1 hw1⟩
/-- ALL HAVE COME UP. -/
theorem seg_done {P : Program} {Q : Exit → Act → World → Prop} {a : Act} {w : World} {l : List Oper} {m : Nat} {listed : Array Bool} (hm : m = l.length) (hB : Region.seqB .any l.toArray 0 m listed = true)
    (h : ∀ w1, Below w.heap.size w w1 → Q .normal a w1) : Seg P l Q m 0 listed a w := by
  refine fun _ w1 hw1 => ⟨by rw [hm, Nat.sub_self]; rw [hm] at hB; exact hB, ?_⟩
  rw [hm, List.drop_length]
  exact h w1 hw1
end Go.Proofs.Ytmicnkiadfihgaa.Flow
