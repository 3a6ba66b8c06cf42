/-
  A law of our own on regions that draw their order: operations that yield one value in whatever world has only new memory beside the world at the region's beginning (loads of older memory, arithmetic, callees that make new memory alone), then new variables, then stores in one forced order: one walk of the textual order serves every order.
-/
import Derived.Deep.QuietTactic
import Derived.StillTail
import Derived.Below
import Derived.RowKit
import Derived.WalkKit
namespace Go.Proofs.Ytmicnkiadfihgaa.Flow
open Go Go.RowKit

/-- A class of worlds that grows out of W by new memory alone, and that new memory does not leave. -/
structure Lasting (W : World) (C : World → Prop) : Prop where
  some : ∃ w, C w
  old : ∀ w, C w → Below W.heap.size W w
  on : ∀ w w', C w → Below w.heap.size w w' → C w'

section
variable {P : Program} {ops : Array Oper} {md : Region.Mode} {W : World} {objs : Nat → Obj} {n m : Nat}

/-- The world has the new blocks that F names. -/
def Has (W : World) (objs : Nat → Obj) (F : List (Nat × Nat)) (w : World) : Prop :=
  Below W.heap.size W w ∧ ∀ x, x ∈ F → w.heap[x.2]? = some (objs x.1)

theorem lt_of_get {w : World} {k : Nat} {o : Obj} (h : w.heap[k]? = some o) : k < w.heap.size := (Array.getElem?_eq_some_iff.1 h).1

theorem Has.lasting {F : List (Nat × Nat)} {w : World} (h : Has W objs F w) : Lasting W (Has W objs F) where
  some := ⟨w, h⟩
  old := fun _ h => h.1
  on := fun _ _ h hb => ⟨h.1.trans (hb.mono h.1.size), fun x hx => (hb.block x.2 (lt_of_get (h.2 x hx))).trans (h.2 x hx)⟩

/-- The operation makes a new block. -/
def New (P : Program) (ops : Array Oper) (o : Oper) (obj : Obj) (a : Act) : Prop :=
  Region.wanted o (yielded ops a.tmps) = true ∧ ∀ (a : Act) (w : World), (execOp a.eval o).run P w = .ok (.value (.pointer (some ⟨w.heap.size, 0, none⟩))) (w.alloc obj)

/-- Operation number i comes up: one of the first n yields its value, one of the next makes its block. -/
def flOp (P : Program) (ops : Array Oper) (W : World) (objs : Nat → Obj) (n : Nat) (i : Nat) (K : Act → List (Nat × Nat) → Prop) (a : Act) (F : List (Nat × Nat)) : Prop :=
  ∃ o, ops[i]? = some o ∧
    if i < n then ∃ v, (∀ C, Lasting W C → YieldsIn P ops C o v a) ∧ K (a.put o.dst v) F
    else New P ops o (objs i) a ∧ ∀ b, W.heap.size ≤ b → (∀ x, x ∈ F → x.2 ≠ b) → K (a.put o.dst (.pointer (some ⟨b, 0, none⟩))) ((i, b) :: F)

theorem flOp_mono {i : Nat} {K K' : Act → List (Nat × Nat) → Prop} {a : Act} {F : List (Nat × Nat)} (h : ∀ a F, K a F → K' a F) (hh : flOp P ops W objs n i K a F) : flOp P ops W objs n i K' a F := by
  obtain ⟨o, ho, hh⟩ := hh
  refine ⟨o, ho, ?_⟩
  split
  · rename_i hi
    rw [if_pos hi] at hh
    obtain ⟨v, h1, h2⟩ := hh
    exact ⟨v, h1, h _ _ h2⟩
  · rename_i hi
    rw [if_neg hi] at hh
    exact ⟨hh.1, fun b hb hF => h _ _ (hh.2 b hb hF)⟩

def wpAnyF (P : Program) (md : Region.Mode) (ops : Array Oper) (W : World) (objs : Nat → Obj) (n m : Nat) (L : Array Bool → Act → List (Nat × Nat) → Prop) : Nat → Array Bool → Act → List (Nat × Nat) → Prop
  | 0, listed, a, F => L listed a F
  | f + 1, listed, a, F =>
    Region.ready md ops listed ≠ [] ∧ ∀ i, i ∈ Region.ready md ops listed → i < m ∧ flOp P ops W objs n i (wpAnyF P md ops W objs n m L f (listed.setIfInBounds i true)) a F

theorem wpAnyF_same {L : Array Bool → Act → List (Nat × Nat) → Prop} (hL : ∀ l a F G, (∀ x, x ∈ F ↔ x ∈ G) → L l a F → L l a G) :
    ∀ (f : Nat) (listed : Array Bool) (a : Act) (F G : List (Nat × Nat)), (∀ x, x ∈ F ↔ x ∈ G) → wpAnyF P md ops W objs n m L f listed a F → wpAnyF P md ops W objs n m L f listed a G
  | 0, _, _, _, _, hFG, h => hL _ _ _ _ hFG h
  | f + 1, listed, a, F, G, hFG, h => by
    refine ⟨h.1, fun i hi => ⟨(h.2 i hi).1, ?_⟩⟩
    obtain ⟨o, ho, hh⟩ := (h.2 i hi).2
    refine ⟨o, ho, ?_⟩
    split
    · rename_i hin
      rw [if_pos hin] at hh
      obtain ⟨v, h1, h2⟩ := hh
      exact ⟨v, h1, wpAnyF_same hL f _ _ F G hFG h2⟩
    · rename_i hin
      rw [if_neg hin] at hh
      refine ⟨hh.1, fun b hb hG => wpAnyF_same hL f _ _ ((i, b) :: F) _ (fun x => ?_) (hh.2 b hb (fun x hx => hG x ((hFG x).1 hx)))⟩
      rw [List.mem_cons, List.mem_cons, hFG x]

/-- It is a wpAny, in every world that has the blocks. -/
theorem wpAny_of_flow {L : Array Bool → Act → List (Nat × Nat) → Prop} {Q : Exit → Act → World → Prop} {g : Nat} (hL : ∀ listed a F w, Has W objs F w → L listed a F → wpAny P md ops Q g listed a w) :
    ∀ (f : Nat) (listed : Array Bool) (a : Act) (F : List (Nat × Nat)) (w : World), Has W objs F w → wpAnyF P md ops W objs n m L f listed a F → wpAny P md ops Q (f + g) listed a w
  | 0, listed, a, F, w, hw, h => by rw [Nat.zero_add]; exact hL _ _ _ _ hw h
  | f + 1, listed, a, F, w, hw, h => by
    rw [show f + 1 + g = (f + g) + 1 by omega]
    refine ⟨fun h0 => absurd h0 h.1, fun i hi => ?_⟩
    obtain ⟨o, ho, hh⟩ := (h.2 i hi).2
    by_cases hin : i < n
    · rw [if_pos hin] at hh
      obtain ⟨v, h1, h2⟩ := hh
      have hq : qOp P ops (Has W objs F) i (fun a' => a' = a.put o.dst v) a := (h1 _ (Has.lasting hw)).qOp ho rfl
      exact wpOp_of_qOp hw (fun a' w' hw' he => by subst he; exact wpAny_of_flow hL f _ _ F w' hw' h2) hq
    · rw [if_neg hin] at hh
      obtain ⟨⟨hwant, hrun⟩, h2⟩ := hh
      unfold wpOp
      simp only [ho, hwant, if_true]
      refine .inl ?_
      unfold Oper.wp
      rw [hrun a w]
      have hlt : ∀ x, x ∈ F → x.2 < w.heap.size := fun x hx => lt_of_get (hw.2 x hx)
      refine wpAny_of_flow hL f _ _ ((i, w.heap.size) :: F) _ ⟨hw.1.alloc hw.1.size _, fun x hx => ?_⟩ (h2 w.heap.size hw.1.size (fun x hx => Nat.ne_of_lt (hlt x hx)))
      rcases List.mem_cons.1 hx with rfl | hx
      · exact heap_alloc_new w _
      · rw [Below.heap_alloc w _ _ (hlt x hx)]; exact hw.2 x hx

theorem yields_put {oi oj : Oper} {v u : Value} {C : World → Prop} {a : Act} (hap : oi.apart ops oj = true) (hsj : ∀ cs b, oj.op ≠ .select cs b)
    (h : YieldsIn P ops C oj u (a.put oi.dst v)) : YieldsIn P ops C oj u a :=
  h.of_same (execOp_put oj hsj a oi.dst v (Oper.apart_spec hap).1).symm (wanted_put oj a oi.dst v (Oper.apart_spec hap).1).symm

theorem yields_put_back {oi oj : Oper} {v u : Value} {C : World → Prop} {a : Act} (hap : oi.apart ops oj = true) (hsi : ∀ cs b, oi.op ≠ .select cs b)
    (h : YieldsIn P ops C oi v a) : YieldsIn P ops C oi v (a.put oj.dst u) :=
  h.of_same (execOp_put oi hsi a oj.dst u (Oper.apart_spec hap).2.2) (wanted_put oi a oj.dst u (Oper.apart_spec hap).2.2)

/-- What may come up next is one of the first m, till all of these have. -/
def Heads (md : Region.Mode) (ops : Array Oper) (m : Nat) (listed : Array Bool) : Prop := ∀ i, i < m → listed.getD i true = false → ∀ j, j ∈ Region.ready md ops listed → j < m

theorem hnot_of {i : Nat} {listed : Array Bool} {oj : Oper} (hr : i ∈ Region.ready md ops listed) (hall : ∀ e ∈ oj.after, Region.binds md e = true → listed.getD e.on false = true) :
    ∀ e ∈ oj.after, Region.binds md e = true → e.on ≠ i := fun e he hb heq => by
  have h1 := hall e he hb
  rw [heq, getD_both (mem_ready.1 hr).1] at h1
  cases h1

/-- An operation that yields one value may be taken first. -/
theorem val_first {L : Array Bool → Act → List (Nat × Nat) → Prop} {i : Nat} {oi : Oper} {v : Value} (hi : ops[i]? = some oi) (hsel : ∀ (j : Nat) (o : Oper) cs b, ops[j]? = some o → o.op ≠ .select cs b) (hin : i < n) (hnm : n ≤ m)
    (hL : ∀ listed a F, L listed a F → ∀ j, j ∈ Region.ready md ops listed → m ≤ j) (hH : ∀ listed, HeadInv md ops m listed → Heads md ops m listed) :
    ∀ (f : Nat) (listed : Array Bool) (a : Act) (F : List (Nat × Nat)), HeadInv md ops m listed →
      (∀ j oj, ops[j]? = some oj → j ≠ i → listed.getD j true = false → (∀ e ∈ oj.after, Region.binds md e = true → e.on ≠ i) → oi.apart ops oj = true) →
      i ∈ Region.ready md ops listed → (∀ C, Lasting W C → YieldsIn P ops C oi v a) →
      wpAnyF P md ops W objs n m L f (listed.setIfInBounds i true) (a.put oi.dst v) F → wpAnyF P md ops W objs n m L (f + 1) listed a F := by
  intro f
  induction f with
  | zero =>
    intro listed a F inv _ hr hy H
    refine ⟨fun h => (by rw [h] at hr; cases hr), fun j hj => ?_⟩
    have hjm : j < m := hH listed inv i (by omega) (mem_ready.1 hr).1 j hj
    refine ⟨hjm, ?_⟩
    by_cases hji : j = i
    · subst hji; exact ⟨oi, hi, by rw [if_pos hin]; exact ⟨v, hy, H⟩⟩
    · have := hL _ _ _ H j (ready_mono hj hji)
      omega
  | succ f ih =>
    intro listed a F inv hfree hr hy H
    refine ⟨fun h => (by rw [h] at hr; cases hr), fun j hj => ?_⟩
    have hjm : j < m := hH listed inv i (by omega) (mem_ready.1 hr).1 j hj
    refine ⟨hjm, ?_⟩
    by_cases hji : j = i
    · subst hji; exact ⟨oi, hi, by rw [if_pos hin]; exact ⟨v, hy, H⟩⟩
    · obtain ⟨oj, hoj, hh⟩ := (H.2 j (ready_mono hj hji)).2
      obtain ⟨hjun, oj', hoj', hall⟩ := mem_ready.1 hj
      obtain rfl : oj' = oj := Option.some.inj (hoj'.symm.trans hoj)
      have hap := hfree j oj' hoj hji hjun (hnot_of hr hall)
      have hsi := fun cs b => hsel i oi cs b hi
      have hsj := fun cs b => hsel j oj' cs b hoj
      have h2 := (Oper.apart_spec hap).2.1
      have hfree' : ∀ k ok, ops[k]? = some ok → k ≠ i → (listed.setIfInBounds j true).getD k true = false →
          (∀ e ∈ ok.after, Region.binds md e = true → e.on ≠ i) → oi.apart ops ok = true := fun k ok hk hki hun hno => by
        refine hfree k ok hk hki ?_ hno
        by_cases hjk : j = k
        · subst hjk; exact hjun
        · rw [getD_set_ne true hjk] at hun; exact hun
      refine ⟨oj', hoj, ?_⟩
      split
      · rename_i hjn
        rw [if_pos hjn] at hh
        obtain ⟨u, hu, hK⟩ := hh
        refine ⟨u, fun C hC => yields_put hap hsj (hu C hC), ih _ _ F (inv.set hj hjm) hfree' (ready_mono hr (Ne.symm hji)) (fun C hC => yields_put_back hap hsi (hy C hC)) ?_⟩
        rw [Array.setIfInBounds_comm _ _ hji, ← Act.put_comm a v u h2]
        exact hK
      · rename_i hjn
        rw [if_neg hjn] at hh
        obtain ⟨⟨hwant, hrun⟩, hK⟩ := hh
        refine ⟨⟨by rw [← wanted_put oj' a oi.dst v (Oper.apart_spec hap).1]; exact hwant, hrun⟩, fun b hb hF => ih _ _ _ (inv.set hj hjm) hfree' (ready_mono hr (Ne.symm hji)) (fun C hC => yields_put_back hap hsi (hy C hC)) ?_⟩
        rw [Array.setIfInBounds_comm _ _ hji, ← Act.put_comm a v _ h2]
        exact hK b hb hF

theorem fresh_any (B : Nat) : ∀ F : List (Nat × Nat), ∃ b, B ≤ b ∧ ∀ x, x ∈ F → x.2 < b
  | [] => ⟨B, Nat.le_refl _, fun _ h => by cases h⟩
  | y :: F => by
    obtain ⟨b, hb, hF⟩ := fresh_any B F
    refine ⟨b + y.2 + 1, by omega, fun x hx => ?_⟩
    rcases List.mem_cons.1 hx with rfl | hx
    · omega
    · have := hF x hx; omega

/-- Where all that yield values have come up, an operation that makes a block may be taken first. -/
theorem new_first {L : Array Bool → Act → List (Nat × Nat) → Prop} {i : Nat} {oi : Oper} (hi : ops[i]? = some oi) (hin : n ≤ i) (him : i < m)
    (hL : ∀ listed a F, L listed a F → ∀ j, j ∈ Region.ready md ops listed → m ≤ j) (hLs : ∀ l a F G, (∀ x, x ∈ F ↔ x ∈ G) → L l a F → L l a G) (hH : ∀ listed, HeadInv md ops m listed → Heads md ops m listed) :
    ∀ (f : Nat) (listed : Array Bool) (a : Act) (F : List (Nat × Nat)), HeadInv md ops m listed → (∀ k, k < n → listed.getD k true = true) →
      (∀ j oj, ops[j]? = some oj → j ≠ i → listed.getD j true = false → (∀ e ∈ oj.after, Region.binds md e = true → e.on ≠ i) → oi.apart ops oj = true) →
      i ∈ Region.ready md ops listed → New P ops oi (objs i) a →
      (∀ b, W.heap.size ≤ b → (∀ x, x ∈ F → x.2 ≠ b) → wpAnyF P md ops W objs n m L f (listed.setIfInBounds i true) (a.put oi.dst (.pointer (some ⟨b, 0, none⟩))) ((i, b) :: F)) →
      wpAnyF P md ops W objs n m L (f + 1) listed a F := by
  intro f
  induction f with
  | zero =>
    intro listed a F inv _ _ hr hy H
    refine ⟨fun h => (by rw [h] at hr; cases hr), fun j hj => ?_⟩
    have hjm : j < m := hH listed inv i him (mem_ready.1 hr).1 j hj
    refine ⟨hjm, ?_⟩
    by_cases hji : j = i
    · subst hji; exact ⟨oi, hi, by rw [if_neg (by omega)]; exact ⟨hy, H⟩⟩
    · obtain ⟨b, hb, hF⟩ := fresh_any W.heap.size F
      have := hL _ _ _ (H b hb (fun x hx => Nat.ne_of_lt (hF x hx))) j (ready_mono hj hji)
      omega
  | succ f ih =>
    intro listed a F inv hn hfree hr hy H
    refine ⟨fun h => (by rw [h] at hr; cases hr), fun j hj => ?_⟩
    have hjm : j < m := hH listed inv i him (mem_ready.1 hr).1 j hj
    refine ⟨hjm, ?_⟩
    by_cases hji : j = i
    · subst hji; exact ⟨oi, hi, by rw [if_neg (by omega)]; exact ⟨hy, H⟩⟩
    · obtain ⟨hjun, oj, hoj, hall⟩ := mem_ready.1 hj
      have hjn : ¬ j < n := fun h => by rw [hn j h] at hjun; cases hjun
      have hap := hfree j oj hoj hji hjun (hnot_of hr hall)
      have h2 := (Oper.apart_spec hap).2.1
      have hfree' : ∀ k ok, ops[k]? = some ok → k ≠ i → (listed.setIfInBounds j true).getD k true = false →
          (∀ e ∈ ok.after, Region.binds md e = true → e.on ≠ i) → oi.apart ops ok = true := fun k ok hk hki hun hno => by
        refine hfree k ok hk hki ?_ hno
        by_cases hjk : j = k
        · subst hjk; exact hjun
        · rw [getD_set_ne true hjk] at hun; exact hun
      have hn' : ∀ k, k < n → (listed.setIfInBounds j true).getD k true = true := fun k hk => by
        rw [getD_set_ne true (by omega)]; exact hn k hk
      -- what is known of number j behind number i, whichever block i has made
      have key : ∀ b, W.heap.size ≤ b → (∀ x, x ∈ F → x.2 ≠ b) → New P ops oj (objs j) (a.put oi.dst (.pointer (some ⟨b, 0, none⟩))) ∧ ∀ c, W.heap.size ≤ c → (∀ x, x ∈ (i, b) :: F → x.2 ≠ c) →
          wpAnyF P md ops W objs n m L f ((listed.setIfInBounds i true).setIfInBounds j true) ((a.put oi.dst (.pointer (some ⟨b, 0, none⟩))).put oj.dst (.pointer (some ⟨c, 0, none⟩))) ((j, c) :: (i, b) :: F) := fun b hb hF => by
        obtain ⟨oj', hoj', hh⟩ := ((H b hb hF).2 j (ready_mono hj hji)).2
        obtain rfl : oj' = oj := Option.some.inj (hoj'.symm.trans hoj)
        rw [if_neg hjn] at hh
        exact hh
      refine ⟨oj, hoj, ?_⟩
      rw [if_neg hjn]
      obtain ⟨b0, hb0, hF0⟩ := fresh_any W.heap.size F
      have k0 := (key b0 hb0 (fun x hx => Nat.ne_of_lt (hF0 x hx))).1
      refine ⟨⟨by rw [← wanted_put oj a oi.dst _ (Oper.apart_spec hap).1]; exact k0.1, k0.2⟩, fun c hc hFc => ?_⟩
      refine ih _ _ _ (inv.set hj hjm) hn' hfree' (ready_mono hr (Ne.symm hji)) ⟨by rw [wanted_put oi a oj.dst _ (Oper.apart_spec hap).2.2]; exact hy.1, hy.2⟩ (fun b hb hFb => ?_)
      have h3 := (key b hb (fun x hx => hFb x (List.mem_cons_of_mem _ hx))).2 c hc (fun x hx => by
        rcases List.mem_cons.1 hx with rfl | hx
        · exact fun e => hFb (j, c) (List.mem_cons_self) e.symm
        · exact hFc x hx)
      rw [Array.setIfInBounds_comm _ _ hji, ← Act.put_comm a _ _ h2]
      refine wpAnyF_same hLs f _ _ _ _ (fun x => ?_) h3
      simp only [List.mem_cons]
      constructor <;> (rintro (h | h | h) <;> simp [h])

/-- The temporaries that a list of operations fills are all unlike, and lie within the frame. -/
def dstsOK (sz : Nat) : List Oper → Bool
  | [] => true
  | o :: r => (match o.dst with
    | some d => decide (d < sz) && r.all (fun x => x.dst != some d)
    | none => false) && dstsOK sz r

theorem put_size (a : Act) (d : Option Tmp) (v : Value) : (a.put d v).tmps.size = a.tmps.size := by
  cases d <;> simp [Act.put]
theorem put_other {a : Act} {d : Option Tmp} {v : Value} {t : Nat} (h : d ≠ some t) : (a.put d v).tmps[t]? = a.tmps[t]? := by
  cases d with
  | none => rfl
  | some e => exact Array.getElem?_setIfInBounds_ne (fun e' => h (by rw [e']))
theorem put_self {a : Act} {t : Nat} {v : Value} (h : t < a.tmps.size) : (a.put (some t) v).tmps[t]? = some v := by
  simp [Act.put, h]

theorem walk_keeps {C : World → Prop} {A : Act} {t : Nat} : ∀ (l : List Oper) (a : Act), (∀ o, o ∈ l → o.dst ≠ some t) → wpQuiet P ops C (fun a' => a' = A) l a → A.tmps[t]? = a.tmps[t]?
  | [], a, _, h => by rw [show a = A from h]
  | o :: l, a, hl, h => by
    unfold wpQuiet at h
    have hl' : ∀ o, o ∈ l → o.dst ≠ some t := fun o ho => hl o (List.mem_cons_of_mem _ ho)
    have h0 : o.dst ≠ some t := hl o List.mem_cons_self
    split at h
    · obtain ⟨v, _, h2⟩ := h
      rw [walk_keeps l _ hl' h2, put_other h0]
    · rw [walk_keeps l _ hl' h, put_other h0]

theorem walk_step {A a : Act} {o : Oper} {l : List Oper} {t : Nat} (hd : o.dst = some t) (ht : t < a.tmps.size) (hl : ∀ x, x ∈ l → x.dst ≠ some t)
    (h : ∀ C, Lasting W C → wpQuiet P ops C (fun a' => a' = A) (o :: l) a) :
    ∃ v, (∀ C, Lasting W C → YieldsIn P ops C o v a) ∧ ∀ C, Lasting W C → wpQuiet P ops C (fun a' => a' = A) l (a.put o.dst v) := by
  by_cases hw : Region.wanted o (yielded ops a.tmps) = true
  · have key : ∀ C, Lasting W C → ∃ u, A.tmps[t]? = some u ∧ YieldsIn P ops C o u a ∧ wpQuiet P ops C (fun a' => a' = A) l (a.put o.dst u) := fun C hC => by
      have h1 := h C hC
      unfold wpQuiet at h1
      rw [if_pos hw] at h1
      obtain ⟨u, h2, h3⟩ := h1
      refine ⟨u, ?_, .inl ⟨hw, h2⟩, h3⟩
      rw [walk_keeps l _ hl h3, hd, put_self ht]
    obtain ⟨v, hv, _⟩ := key _ (Has.lasting (W := W) (objs := fun _ => .cells #[] 0) (F := []) (w := W) ⟨Below.refl _ _, fun x hx => by cases hx⟩)
    refine ⟨v, fun C hC => ?_, fun C hC => ?_⟩
    · obtain ⟨u, hu, h2, _⟩ := key C hC
      rw [hv] at hu
      rw [Option.some.inj hu]
      exact h2
    · obtain ⟨u, hu, _, h3⟩ := key C hC
      rw [hv] at hu
      rw [Option.some.inj hu]
      exact h3
  · refine ⟨undef, fun C _ => .inr ⟨by simpa using hw, rfl⟩, fun C hC => ?_⟩
    have h1 := h C hC
    unfold wpQuiet at h1
    rw [if_neg hw] at h1
    exact h1

/-- The new variables, one behind the other: whichever blocks they are. -/
def news (B : Nat) (K : Act → List (Nat × Nat) → Prop) : Nat → List Oper → Act → List (Nat × Nat) → Prop
  | _, [], a, F => K a F
  | k, o :: r, a, F => ∀ b, B ≤ b → (∀ x, x ∈ F → x.2 ≠ b) → news B K (k + 1) r (a.put o.dst (.pointer (some ⟨b, 0, none⟩))) ((k, b) :: F)

theorem getD_self (listed : Array Bool) (k : Nat) : (listed.setIfInBounds k true).getD k true = true := by
  by_cases h : k < listed.size <;> simp [h]

theorem news_lex {g : Nat} {Lq : Act → List (Nat × Nat) → Prop} (hLq : ∀ a F G, (∀ x, x ∈ F ↔ x ∈ G) → Lq a F → Lq a G) (hH : ∀ listed, HeadInv md ops m listed → Heads md ops m listed)
    (hN : ∀ k o, n ≤ k → k < m → ops[k]? = some o → o.guard = none ∧ ∀ (a : Act) (w : World), (execOp a.eval o).run P w = .ok (.value (.pointer (some ⟨w.heap.size, 0, none⟩))) (w.alloc (objs k))) :
    ∀ (l : List Oper) (k : Nat) (listed : Array Bool) (a : Act) (F : List (Nat × Nat)), (∀ j, j < l.length → l[j]? = ops[k + j]?) → k + l.length = m → n ≤ k → HeadInv md ops m listed → (∀ i, i < n → listed.getD i true = true) →
      Region.lexHead md ops g l.length k listed = true → news W.heap.size Lq k l a F →
      wpAnyF P md ops W objs n m (fun listed' a' F' => Region.seqB md ops g m listed' = true ∧ Lq a' F') l.length listed a F
  | [], k, listed, a, F, _, hk, _, _, _, hB, h => by
    obtain rfl : k = m := by simpa using hk
    exact ⟨by simpa [Region.lexHead] using hB, h⟩
  | o :: l, k, listed, a, F, hl, hk, hnk, inv, hn, hB, h => by
    have h0 : ops[k]? = some o := by simpa using (hl 0 (by simp)).symm
    simp only [List.length_cons, Region.lexHead, Bool.and_eq_true] at hB
    obtain ⟨⟨hr, hf⟩, hB'⟩ := hB
    have hkm : k < m := by simp only [List.length_cons] at hk; omega
    have hr' : k ∈ Region.ready md ops listed := by simpa using hr
    obtain ⟨hg, hrun⟩ := hN k o hnk hkm h0
    refine new_first h0 hnk hkm (fun listed' a' F' hL => seqB_ready hL.1) (fun _ _ _ _ hFG hL => ⟨hL.1, hLq _ _ _ hFG hL.2⟩) hH l.length listed a F inv hn (Region.free_spec h0 hf) hr' ⟨by simp [Region.wanted, hg], hrun⟩ (fun b hb hF => ?_)
    refine news_lex hLq hH hN l (k + 1) _ _ _ (fun j hj => by have := hl (j + 1) (by simp; omega); simpa [Nat.add_assoc, Nat.add_comm 1 j] using this) (by simp only [List.length_cons] at hk; omega) (by omega) (inv.set hr' hkm) (fun i hi => ?_) hB' (h b hb hF)
    rw [getD_set_ne true (by omega)]
    exact hn i hi

theorem vals_lex {g d : Nat} {Lq : Act → List (Nat × Nat) → Prop} {A : Act} (hsel : Region.noSelect ops = true) (hnm : n ≤ m) (hH : ∀ listed, HeadInv md ops m listed → Heads md ops m listed)
    (hT : ∀ listed, HeadInv md ops m listed → (∀ i, i < n → listed.getD i true = true) → Region.lexHead md ops g d n listed = true →
      wpAnyF P md ops W objs n m (fun listed' a' F' => Region.seqB md ops g m listed' = true ∧ Lq a' F') d listed A []) :
    ∀ (l : List Oper) (k : Nat) (listed : Array Bool) (a : Act), (∀ j, j < l.length → l[j]? = ops[k + j]?) → k + l.length = n → HeadInv md ops m listed → (∀ i, i < k → listed.getD i true = true) →
      Region.lexHead md ops g (l.length + d) k listed = true → dstsOK a.tmps.size l = true → (∀ C, Lasting W C → wpQuiet P ops C (fun a' => a' = A) l a) →
      wpAnyF P md ops W objs n m (fun listed' a' F' => Region.seqB md ops g m listed' = true ∧ Lq a' F') (l.length + d) listed a []
  | [], k, listed, a, _, hk, inv, hn, hB, _, h => by
    obtain rfl : k = n := by simpa using hk
    have e : a = A := h _ (Has.lasting (W := W) (objs := fun _ => .cells #[] 0) (F := []) (w := W) ⟨Below.refl _ _, fun x hx => by cases hx⟩)
    rw [e]
    simp only [List.length_nil, Nat.zero_add] at hB ⊢
    exact hT listed inv hn hB
  | o :: l, k, listed, a, hl, hk, inv, hn, hB, hD, h => by
    have h0 : ops[k]? = some o := by simpa using (hl 0 (by simp)).symm
    have e1 : (o :: l).length + d = (l.length + d) + 1 := by simp only [List.length_cons]; omega
    rw [e1] at hB ⊢
    simp only [Region.lexHead, Bool.and_eq_true] at hB
    obtain ⟨⟨hr, hf⟩, hB'⟩ := hB
    have hkn : k < n := by simp only [List.length_cons] at hk; omega
    have hr' : k ∈ Region.ready md ops listed := by simpa using hr
    cases hd : o.dst with
    | none => simp [dstsOK, hd] at hD
    | some t =>
      simp only [dstsOK, hd, Bool.and_eq_true, decide_eq_true_eq, List.all_eq_true, bne_iff_ne] at hD
      obtain ⟨⟨ht, hne⟩, hD'⟩ := hD
      obtain ⟨v, hy, hrest⟩ := walk_step hd ht hne h
      refine val_first h0 (Region.noSelect_spec hsel) hkn hnm (fun listed' a' F' hL => seqB_ready hL.1) hH (l.length + d) listed a [] inv (Region.free_spec h0 hf) hr' hy ?_
      refine vals_lex hsel hnm hH hT l (k + 1) _ _ (fun j hj => by have := hl (j + 1) (by simp; omega); simpa [Nat.add_assoc, Nat.add_comm 1 j] using this) (by simp only [List.length_cons] at hk; omega) (inv.set hr' (by omega)) (fun i hi => ?_) hB' (by rw [put_size]; exact hD') hrest
      by_cases hik : i = k
      · subst hik; exact getD_self _ _
      · rw [getD_set_ne true (by omega)]; exact hn i (by omega)
end

/-- ONE WALK OF THE TEXTUAL ORDER SERVES EVERY ORDER: the first n operations yield values (wherever there is only new memory beside W), the next ones make new variables, the rest comes in one forced order. -/
theorem wp_region_flow {P : Program} {id : Nat} {Q : Exit → Act → World → Prop} {a : Act} {W : World} {l : List Oper} (n m : Nat) (A : Act) (objs : Nat → Obj) (hm : P.follows .mixedOrders = true) (hnm : n ≤ m)
    (hB : Region.lexTailB .any l.toArray m = true) (hD : dstsOK a.tmps.size (l.take n) = true)
    (hN : ∀ k o, n ≤ k → k < m → l.toArray[k]? = some o → o.guard = none ∧ ∀ (a : Act) (w : World), (execOp a.eval o).run P w = .ok (.value (.pointer (some ⟨w.heap.size, 0, none⟩))) (w.alloc (objs k)))
    (hA : ∀ C, Lasting W.drew C → wpQuiet P l.toArray C (fun a' => a' = A) (l.take n) a)
    (hT : news W.heap.size (fun a' F => ∀ w, Has W.drew objs F w → wpList P l.toArray Q (l.drop m) a' w) n ((l.drop n).take (m - n)) A []) : (Code.region id l.toArray true).wp P Q a W := by
  simp only [Region.lexTailB, Bool.and_eq_true, decide_eq_true_eq] at hB
  obtain ⟨⟨⟨⟨hsel, hms⟩, hs⟩, hc⟩, hlex⟩ := hB
  have hms' : m < l.length := by simpa using hms
  have htl : (l.take n).length = n := by simp; omega
  have htl2 : ((l.drop n).take (m - n)).length = m - n := by simp; omega
  have hdl : (l.drop m).length = l.toArray.size - m := by simp
  have inv0 : HeadInv .any l.toArray m (Array.replicate l.toArray.size false) :=
    ⟨by simp, fun j oj _ hl => (by rw [getD_replicate_false] at hl; cases hl), fun t _ ht => getD_in (by simpa using ht) (getD_replicate_false _ _)⟩
  have hH : ∀ listed, HeadInv .any l.toArray m listed → Heads .any l.toArray m listed := fun listed inv i him hun j hj => by
    rcases Nat.lt_or_ge j m with h | h
    · exact h
    · exact absurd hj (tail_waits hs hc hms inv _ i rfl him hun j h)
  have H := vals_lex (P := P) (md := .any) (ops := l.toArray) (W := W.drew) (objs := objs) (n := n) (m := m) (g := l.toArray.size - m) (d := m - n) (A := A)
    (Lq := fun a' F => ∀ w, Has W.drew objs F w → wpList P l.toArray Q (l.drop m) a' w) hsel hnm hH
    (fun listed inv hn hB => by
      have := news_lex (P := P) (md := .any) (ops := l.toArray) (W := W.drew) (objs := objs) (n := n) (m := m) (g := l.toArray.size - m)
        (Lq := fun a' F => ∀ w, Has W.drew objs F w → wpList P l.toArray Q (l.drop m) a' w)
        (fun a F G hFG h w hw => h w ⟨hw.1, fun x hx => hw.2 x ((hFG x).1 hx)⟩) hH hN ((l.drop n).take (m - n)) n listed A []
        (fun j hj => by
          have : j < m - n := by rw [htl2] at hj; exact hj
          simp [List.getElem?_drop, this]) (by rw [htl2]; omega) (Nat.le_refl _) inv hn (by rw [htl2]; exact hB) hT
      rwa [htl2] at this)
    (l.take n) 0 _ a (fun j hj => by
      have hj' : j < n := by rw [htl] at hj; exact hj
      simp [hj']) (by simpa using htl) inv0 (fun i hi => by omega) (by rw [htl, show n + (m - n) = m by omega]; exact hlex) hD hA
  refine wp_region_any hm ?_
  have := wpAny_of_flow (P := P) (md := .any) (ops := l.toArray) (W := W.drew) (objs := objs) (n := n) (m := m) (Q := Q) (g := l.toArray.size - m) (fun listed a' F w hw hL => by
    have := wpAny_of_seq (md := .any) (Q' := Q) (l.drop m) m listed a' w (fun j => by simp [List.getElem?_drop]) (by rw [hdl]; exact hL.1) (hL.2 w hw)
    rwa [hdl] at this) _ _ _ _ W.drew ⟨Below.refl _ _, fun x hx => by cases hx⟩ H
  rw [htl, show n + (m - n) + (l.toArray.size - m) = l.toArray.size by omega] at this
  exact this

/-- The worlds at hand, as a family: what a walk of one order is shown in. -/
structure Family (W : World) (ι : Type) (φ : ι → World) : Prop where
  old : ∀ i, Below W.heap.size W (φ i)
  on : ∀ i w', Below (φ i).heap.size (φ i) w' → ∃ j, w' = φ j

theorem Family.cell {W : World} {ι : Type} {φ : ι → World} (h : Family W ι φ) {p : Addr} {v : Value} (hc : W.cell? p = some v) (i : ι) : (φ i).cell? p = some v :=
  ((h.old i).cell (World.block_lt_of_cell? W p hc)).trans hc

theorem flow_call {P : Program} {f : FuncId} {args : Array Value} {W : World} {ι : Type} {φ : ι → World} {i : ι} {v : Value} (h : Family W ι φ)
    (hc : Calls P f args (φ i) fun e w' => e = .returned v ∧ Below (φ i).heap.size (φ i) w') : Calls P f args (φ i) fun e w' => e = .returned v ∧ ∃ j, w' = φ j :=
  hc.mono fun _ _ ⟨he, hb⟩ => ⟨he, h.on _ _ hb⟩

theorem family_of {P : Program} {ops : Array Oper} {Q : Act → Prop} {l : List Oper} {a : Act} {W : World}
    (h : ∀ (ι : Type) [Nonempty ι] (φ : ι → World), Family W ι φ → wpQuiet P ops (fun w => ∃ i, w = φ i) Q l a) (C : World → Prop) (hC : Lasting W C) : wpQuiet P ops C Q l a := by
  have e : C = fun w => ∃ i : { w : World // C w }, w = i.val := funext fun w => propext ⟨fun hw => ⟨⟨w, hw⟩, rfl⟩, fun ⟨i, hi⟩ => hi ▸ i.property⟩
  rw [e]
  obtain ⟨w0, h0⟩ := hC.some
  have : Nonempty { w : World // C w } := ⟨⟨w0, h0⟩⟩
  exact h _ _ ⟨fun i => hC.old _ i.property, fun i w' hb => ⟨⟨w', hC.on _ _ i.property hb⟩, rfl⟩⟩

/-- A region without new variables and without stores: behind it the world has new memory alone. -/
theorem wp_region_flow0 {P : Program} {id : Nat} {Q : Exit → Act → World → Prop} {a : Act} {W : World} {l : List Oper} (hm : P.follows .mixedOrders = true) (hB : Region.lexB .any l.toArray = true)
    (h : ∀ (ι : Type) [Nonempty ι] (φ : ι → World), Family W ι φ → wpQuiet P l.toArray (fun w => ∃ i, w = φ i) (fun a' => ∀ w', Below W.heap.size W w' → Q .normal a' w') l a) : (Code.region id l.toArray true).wp P Q a W := by
  have h1 := family_of h (fun w => Below W.heap.size W w) ⟨⟨W, Below.refl _ _⟩, fun _ h => h, fun _ _ h hb => h.trans (hb.mono h.size)⟩
  exact wp_region_quiet (C := fun w => Below W.heap.size W w) hm hB (Below.refl _ _).drew (by simpa using h1)

/-- The same with stores behind it, in one forced order. -/
theorem wp_region_flow1 {P : Program} {id : Nat} {Q : Exit → Act → World → Prop} {a : Act} {W : World} {l : List Oper} (n : Nat) (hm : P.follows .mixedOrders = true)
    (hB : Region.lexTailB .any l.toArray n = true) (hD : dstsOK a.tmps.size (l.take n) = true)
    (h : ∃ A, (∀ (ι : Type) [Nonempty ι] (φ : ι → World), Family W ι φ → wpQuiet P l.toArray (fun w => ∃ i, w = φ i) (fun a' => a' = A) (l.take n) a) ∧
      ∀ w, Below W.heap.size W w → wpList P l.toArray Q (l.drop n) A w) : (Code.region id l.toArray true).wp P Q a W := by
  obtain ⟨A, hA, hT⟩ := h
  refine wp_region_flow n n A (fun _ => .cells #[] 0) hm (Nat.le_refl _) hB hD (fun k o h1 h2 _ => by omega) (family_of fun ι _ φ hφ => hA ι φ ⟨fun i => Below.trans (Below.refl _ _).drew (hφ.old i), hφ.on⟩) ?_
  rw [Nat.sub_self, List.take_zero]
  exact fun w hw => hT w (Below.trans (Below.refl _ _).drew hw.1)

/-- The same with one new variable, and stores behind it. -/
theorem wp_region_flow2 {P : Program} {id : Nat} {Q : Exit → Act → World → Prop} {a : Act} {W : World} {l : List Oper} (n : Nat) (o : Oper) (obj : Obj) (hm : P.follows .mixedOrders = true)
    (hB : Region.lexTailB .any l.toArray (n + 1) = true) (hD : dstsOK a.tmps.size (l.take n) = true) (ho : l[n]? = some o) (hg : o.guard = none)
    (hN : ∀ (a : Act) (w : World), (execOp a.eval o).run P w = .ok (.value (.pointer (some ⟨w.heap.size, 0, none⟩))) (w.alloc obj))
    (h : ∃ A, (∀ (ι : Type) [Nonempty ι] (φ : ι → World), Family W ι φ → wpQuiet P l.toArray (fun w => ∃ i, w = φ i) (fun a' => a' = A) (l.take n) a) ∧
      ∀ w b, Below W.heap.size W w → W.heap.size ≤ b → w.heap[b]? = some obj → wpList P l.toArray Q (l.drop (n + 1)) (A.put o.dst (.pointer (some ⟨b, 0, none⟩))) w) : (Code.region id l.toArray true).wp P Q a W := by
  obtain ⟨A, hA, hT⟩ := h
  refine wp_region_flow n (n + 1) A (fun _ => obj) hm (by omega) hB hD (fun k o' h1 h2 h3 => ?_) (family_of fun ι _ φ hφ => hA ι φ ⟨fun i => Below.trans (Below.refl _ _).drew (hφ.old i), hφ.on⟩) ?_
  · obtain rfl : k = n := by omega
    obtain rfl : o' = o := Option.some.inj (h3.symm.trans (by simpa using ho))
    exact ⟨hg, hN⟩
  · have e : (l.drop n).take (n + 1 - n) = [o] := by
      rw [show n + 1 - n = 1 by omega]
      have h1 : n < l.length := (List.getElem?_eq_some_iff.1 ho).1
      rw [List.drop_eq_getElem_cons h1, (List.getElem?_eq_some_iff.1 ho).2, List.take_succ_cons, List.take_zero]
    rw [e]
    exact fun b hb _ w hw => hT w b (Below.trans (Below.refl _ _).drew hw.1) hb (hw.2 (n, b) List.mem_cons_self)

/-- The same with two new variables, and stores behind them. -/
theorem wp_region_flow3 {P : Program} {id : Nat} {Q : Exit → Act → World → Prop} {a : Act} {W : World} {l : List Oper} (n : Nat) (o1 o2 : Oper) (obj1 obj2 : Obj) (hm : P.follows .mixedOrders = true)
    (hB : Region.lexTailB .any l.toArray (n + 2) = true) (hD : dstsOK a.tmps.size (l.take n) = true) (ho1 : l[n]? = some o1) (hg1 : o1.guard = none) (ho2 : l[n + 1]? = some o2) (hg2 : o2.guard = none)
    (hN1 : ∀ (a : Act) (w : World), (execOp a.eval o1).run P w = .ok (.value (.pointer (some ⟨w.heap.size, 0, none⟩))) (w.alloc obj1))
    (hN2 : ∀ (a : Act) (w : World), (execOp a.eval o2).run P w = .ok (.value (.pointer (some ⟨w.heap.size, 0, none⟩))) (w.alloc obj2))
    (h : ∃ A, (∀ (ι : Type) [Nonempty ι] (φ : ι → World), Family W ι φ → wpQuiet P l.toArray (fun w => ∃ i, w = φ i) (fun a' => a' = A) (l.take n) a) ∧
      ∀ w b c, Below W.heap.size W w → W.heap.size ≤ b → W.heap.size ≤ c → b ≠ c → w.heap[b]? = some obj1 → w.heap[c]? = some obj2 →
        wpList P l.toArray Q (l.drop (n + 2)) ((A.put o1.dst (.pointer (some ⟨b, 0, none⟩))).put o2.dst (.pointer (some ⟨c, 0, none⟩))) w) : (Code.region id l.toArray true).wp P Q a W := by
  obtain ⟨A, hA, hT⟩ := h
  refine wp_region_flow n (n + 2) A (fun k => if k = n then obj1 else obj2) hm (by omega) hB hD (fun k o' h1 h2 h3 => ?_) (family_of fun ι _ φ hφ => hA ι φ ⟨fun i => Below.trans (Below.refl _ _).drew (hφ.old i), hφ.on⟩) ?_
  · have hk : k = n ∨ k = n + 1 := by omega
    rcases hk with rfl | rfl
    · obtain rfl : o' = o1 := Option.some.inj (h3.symm.trans (by simpa using ho1))
      exact ⟨hg1, by simpa using hN1⟩
    · obtain rfl : o' = o2 := Option.some.inj (h3.symm.trans (by simpa using ho2))
      exact ⟨hg2, by simpa using hN2⟩
  · have e : (l.drop n).take (n + 2 - n) = [o1, o2] := by
      rw [show n + 2 - n = 2 by omega]
      have h1 : n < l.length := (List.getElem?_eq_some_iff.1 ho1).1
      have h2 : n + 1 < l.length := (List.getElem?_eq_some_iff.1 ho2).1
      rw [List.drop_eq_getElem_cons h1, (List.getElem?_eq_some_iff.1 ho1).2, List.take_succ_cons, List.drop_eq_getElem_cons h2, (List.getElem?_eq_some_iff.1 ho2).2, List.take_succ_cons, List.take_zero]
    rw [e]
    intro b hb _ c hc hF w hw
    refine hT w b c (Below.trans (Below.refl _ _).drew hw.1) hb hc (fun e => hF (n, b) List.mem_cons_self e) ?_ ?_
    · have := hw.2 (n, b) (by simp)
      simpa using this
    · have := hw.2 (n + 1, c) (by simp)
      simpa using this

/-- A variable of two words, whole. -/
theorem blk2 {w : World} {b : Nat} {u v : Value} {t : TypeId} (h : w.heap[b]? = some (.cells #[u, v] t (0, 0))) :
    w.cell? ⟨b, 0, none⟩ = some u ∧ w.cell? ⟨b, 1, none⟩ = some v ∧ w.frozen? ⟨b, 0, none⟩ = false ∧ w.frozen? ⟨b, 1, none⟩ = false := by
  refine ⟨?_, ?_, ?_, ?_⟩ <;> simp [World.cell?, World.frozen?, h]

theorem alloc_at {w : World} {o : Obj} {k : Nat} (h : k = w.heap.size) : (w.alloc o).heap[k]? = some o := by
  subst h; exact heap_alloc_new w o
theorem alloc_keeps {w : World} {o x : Obj} {k : Nat} (h : w.heap[k]? = some x) : (w.alloc o).heap[k]? = some x :=
  (Below.heap_alloc w o k (lt_of_get h)).trans h
theorem store1 {w : World} {b o : Nat} {c : Array Value} {v : Value} {t : TypeId} {fr : Nat × Nat} (h : w.heap[b]? = some (.cells c t fr)) :
    (w.setCell ⟨b, o, none⟩ v).heap[b]? = some (.cells (c.setIfInBounds o v) t fr) := by
  simp [World.setCell, Array.getElem?_modify, h]
theorem store2 {w : World} {b : Nat} {x y u v : Value} {t : TypeId} (h : w.heap[b]? = some (.cells #[x, y] t (0, 0))) :
    ((w.setCell ⟨b, 0, none⟩ u).setCell ⟨b, 1, none⟩ v).heap[b]? = some (.cells #[u, v] t (0, 0)) :=
  store1 (store1 h)
theorem store_far {w : World} {a : Addr} {k : Nat} {o : Obj} {v : Value} (h : w.heap[k]? = some o) (hk : k ≠ a.block) : (w.setCell a v).heap[k]? = some o :=
  (Below.heap_setCell w a v k hk).trans h
theorem store2_far {w : World} {b k : Nat} {o : Obj} {u v : Value} (h : w.heap[k]? = some o) (hk : k ≠ b) : ((w.setCell ⟨b, 0, none⟩ u).setCell ⟨b, 1, none⟩ v).heap[k]? = some o :=
  store_far (store_far h hk) hk
theorem below_store2 {B : Nat} {a w : World} {b : Nat} {u v : Value} (h : Below B a w) (hb : B ≤ b) : Below B a ((w.setCell ⟨b, 0, none⟩ u).setCell ⟨b, 1, none⟩ v) :=
  (h.setCell (p := ⟨b, 0, none⟩) hb u).setCell (p := ⟨b, 1, none⟩) hb v

theorem keeps {W w : World} (h : Below W.heap.size W w) {b : Nat} {o : Obj} (hb : W.heap[b]? = some o) : w.heap[b]? = some o :=
  (h.block b (lt_of_get hb)).trans hb

/-- The world at hand under a new name, with what is wanted of it. -/
theorem name_wp {P : Program} {c : Code} {Q : Exit → Act → World → Prop} {a : Act} {W : World} (F : World → Prop) (h : F W) (k : ∀ w, F w → c.wp P Q a w) : c.wp P Q a W := k W h

theorem name_calls {P : Program} {f : FuncId} {args : Array Value} {R : Ending → World → Prop} {W : World} (F : World → Prop) (h : F W) (k : ∀ w, F w → Calls P f args w R) : Calls P f args W R := k W h
/-- A callee that makes new memory alone: what it answers, and the world behind it under a new name. -/
theorem call_then {P : Program} {f : FuncId} {args : Array Value} {R : Ending → World → Prop} {W : World} {v : Value} (h : Calls P f args W fun e w' => e = .returned v ∧ Below W.heap.size W w')
    (k : ∀ w, Below W.heap.size W w → R (.returned v) w) : Calls P f args W R := h.mono fun _ _ ⟨he, hb⟩ => by subst he; exact k _ hb

theorem Family.two {W : World} {ι : Type} {φ : ι → World} (h : Family W ι φ) {b : Nat} {u v : Value} {t : TypeId} (hk : W.heap[b]? = some (.cells #[u, v] t (0, 0))) :
    (∀ i, (φ i).cell? ⟨b, 0, none⟩ = some u) ∧ (∀ i, (φ i).cell? ⟨b, 1, none⟩ = some v) :=
  ⟨fun i => (blk2 (keeps (h.old i) hk)).1, fun i => (blk2 (keeps (h.old i) hk)).2.1⟩

theorem below_next {B : Nat} {w w1 w2 : World} (h : Below B w w1) (hB : B ≤ w1.heap.size) (h2 : Below w1.heap.size w1 w2) : Below B w w2 := h.trans (h2.mono hB)
end Go.Proofs.Ytmicnkiadfihgaa.Flow
