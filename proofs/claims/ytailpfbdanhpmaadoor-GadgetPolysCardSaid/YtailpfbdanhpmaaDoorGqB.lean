/-
  Lists of lists that a call made by append: GP: the lists so far, and the row of their values, apart from each other.
-/
import Derived.Test.YtailpfbdanhpmaaDoorGqA
import Derived.Test.YtailpfbdanhpmaaDoorGvD
import Derived.Laws.AppendOwn
namespace Go.Proofs.YtailpfbdanhpmaaDoor
open Go.RowKit F Flow
set_option linter.unusedVariables false
set_option linter.unusedSimpArgs false
attribute [local go_sem] eql_elem

theorem wpList_append_w {P : Program} {w : World} {ops : Array Oper} {rest : List Oper} {o : Oper} {a : Act} {Q : Exit → Act → World → Prop} (hgd : o.guard = none) (s x : Operand) (t : TypeId)
    (ho : o.op = .call { callee := .builtin .append, args := #[s, x], argTypes := #[t, t] })
    (base : Nat) (e : TypeId) (i : TypeInfo) (z : Value) (size bytes : Nat) (ht : P.underlying t = some (.slice e)) (hi : P.info? e = some i) (hz : i.zero = some z)
    (hsize : i.size = size) (hby : i.bytes = bytes) (hzs : z.cells.size = size) (hsz : 0 < size)
    (v : Value) (n : Nat) (xs : List Value) (hs : a.eval s = v) (hown : w.ownsRow base e size v n xs)
    (ad : Addr) (m c : Nat) (news : List Value) (hx : a.eval x = .slice (some ad) m c) (hl : news.length = m * size) (hnews : ∀ j u, news[j]? = some u → w.cell? (ad.add j) = some u) (h1 : ∀ u ∈ news, u.oneCell' = true) (hm : 0 < m)
    (h63 : n + m ≤ maxLen) (hbytes : (n + m) * bytes ≤ 140737488355328) (hbase : base ≤ w.heap.size)
    (h : ∀ v' w', w'.ownsRow base e size v' (n + m) (xs ++ news) → w.grownBy w' v.ownBlock → (v'.ownBlock = v.ownBlock ∨ v'.ownBlock = some w.heap.size) → wpList P ops Q rest (a.put o.dst v') w') : wpList P ops Q (o :: rest) a w :=
  wpList_plain hgd fun _ hK => wp_append_at s x t ho base e i z size bytes ht hi hz hsize hby hzs hsz v n xs hs hown ad m c news hx hl hnews h1 hm h63 hbytes hbase fun v' w' h2 h3 h4 => hK _ _ (h v' w' h2 h3 h4)
theorem ElemsAt.same {w w' : World} {A : Option Addr} {xs : List Int} (h : ElemsAt w A xs) (hs : ∀ a, A = some a → w'.heap[a.block]? = w.heap[a.block]?) : ElemsAt w' A xs := fun k hk => by
  obtain ⟨b, o, rfl, h0, h1⟩ := h k hk
  have e : w'.heap[b]? = w.heap[b]? := hs _ rfl
  exact ⟨b, o, rfl, (World.cell?_of_block (a := ⟨b, o + k * 2, none⟩) e).trans h0, (World.cell?_of_block (a := ⟨b, o + k * 2 + 1, none⟩) e).trans h1⟩
theorem owns_same {w w' : World} {base size : Nat} {e : TypeId} {v : Value} {n : Nat} {xs : List Value} (h : w.ownsRow base e size v n xs) (hs : ∀ g, v.ownBlock = some g → w'.heap[g]? = w.heap[g]?) : w'.ownsRow base e size v n xs := by
  refine ⟨h.1, ?_⟩
  rcases h.2 with hn | ⟨g, cap, cur, rfl, hbb, hgg, rest⟩
  · exact .inl hn
  · exact .inr ⟨g, cap, cur, rfl, hbb, (hs g rfl).trans hgg, rest⟩
/-- The lists' own words. -/
def pcells (A : Nat → Option Addr) (n c : Nat → Nat) (j : Nat) : List Value := (List.range j).map fun i => .slice (A i) (n i) (c i)
theorem pcells_at (A : Nat → Option Addr) (n c : Nat → Nat) {i j : Nat} (h : i < j) : (pcells A n c j)[i]? = some (.slice (A i) (n i) (c i)) := by simp [pcells, h]
theorem pcells_succ (A : Nat → Option Addr) (n c : Nat → Nat) (j : Nat) : pcells A n c (j + 1) = pcells A n c j ++ [.slice (A j) (n j) (c j)] := by simp [pcells, List.range_succ]
theorem pcells_congr {A A' : Nat → Option Addr} {n c c' : Nat → Nat} {j : Nat} (h : ∀ i, i < j → A i = A' i ∧ c i = c' i) : pcells A n c j = pcells A' n c' j := by
  unfold pcells
  apply List.map_congr_left
  intro i hi
  obtain ⟨h1, h2⟩ := h i (by simpa using hi)
  rw [h1, h2]
/-- J lists in vP, k numbers in vV. -/
structure GP (B : Nat) (w : World) (vP vV : Value) (J k : Nat) (A : Nat → Option Addr) (n c : Nat → Nat) (F : Nat → Nat → Int) (xs : List Int) : Prop where
  own1 : w.ownsRow B 22 1 vP J (pcells A n c J)
  own2 : w.ownsRow B 28 2 vV k (ecells xs)
  els : ∀ i, i < J → ElemsAt w (A i) (lst (F i) (n i))
  ap1 : ∀ i, i < J → ∀ a, A i = some a → a.block < w.heap.size ∧ vP.ownBlock ≠ some a.block ∧ vV.ownBlock ≠ some a.block
  ap2 : ∀ g, vP.ownBlock = some g → vV.ownBlock ≠ some g
theorem GP.up {B : Nat} {w w' : World} {vP vV : Value} {J k : Nat} {A : Nat → Option Addr} {n c : Nat → Nat} {F : Nat → Nat → Int} {xs : List Int} (h : GP B w vP vV J k A n c F xs) (hb : Below w.heap.size w w') : GP B w' vP vV J k A n c F xs :=
  ⟨ownsn_up h.own1 hb, ownsn_up h.own2 hb, fun i hi => (h.els i hi).up hb, fun i hi a ha => by
    obtain ⟨h1, h2⟩ := h.ap1 i hi a ha
    exact ⟨Nat.lt_of_lt_of_le h1 hb.size, h2⟩, h.ap2⟩
theorem GP.start {B : Nat} {w : World} {n c : Nat → Nat} {A : Nat → Option Addr} {F : Nat → Nat → Int} : GP B w (.slice none 0 0) (.slice none 0 0) 0 0 A n c F [] :=
  ⟨World.ownsRow_nil _ _ _ _, World.ownsRow_nil _ _ _ _, fun i hi => absurd hi (Nat.not_lt_zero _), fun i hi => absurd hi (Nat.not_lt_zero _), fun g h => by cases h⟩
/-- One more list. -/
theorem GP.list {B : Nat} {w w' : World} {vP vP' vV : Value} {J k : Nat} {A : Nat → Option Addr} {n c : Nat → Nat} {F : Nat → Nat → Int} {xs : List Int} (h : GP B w vP vV J k A n c F xs) (A1 : Option Addr) (c1 : Nat) (hA : ElemsAt w A1 (lst (F J) (n J)))
    (hap : ∀ a, A1 = some a → a.block < w.heap.size ∧ vP.ownBlock ≠ some a.block ∧ vV.ownBlock ≠ some a.block)
    (ho : w'.ownsRow B 22 1 vP' (J + 1) (pcells A n c J ++ [.slice A1 (n J) c1])) (hg : w.grownBy w' vP.ownBlock) (hw : vP'.ownBlock = vP.ownBlock ∨ vP'.ownBlock = some w.heap.size) :
    GP B w' vP' vV (J + 1) k (fun i => if i = J then A1 else A i) n (fun i => if i = J then c1 else c i) F xs := by
  have hP : ∀ g, g < w.heap.size → vP.ownBlock ≠ some g → vP'.ownBlock ≠ some g := fun g h1 h2 e => by
    rcases hw with h3 | h3
    · rw [h3] at e; exact h2 e
    · rw [h3] at e; cases e; omega
  refine ⟨?_, owns_same h.own2 (fun g hg2 => ?_), fun i hi => ?_, fun i hi a ha => ?_, fun g hg2 e => ?_⟩
  · rw [pcells_succ, if_pos rfl, if_pos rfl, pcells_congr (A' := A) (c' := c) (fun i hi => ⟨if_neg (by omega), if_neg (by omega)⟩)]
    exact ho
  · exact hg.block g (h.own2.lt g hg2).2 (fun e => h.ap2 g e.symm hg2)
  · by_cases e : i = J
    · subst e
      rw [if_pos rfl]
      exact hA.same (fun a ha => hg.block _ (hap a ha).1 (fun e => (hap a ha).2.1 e.symm))
    · rw [if_neg e]
      exact (h.els i (by omega)).same (fun a ha => hg.block _ (h.ap1 i (by omega) a ha).1 (fun e2 => (h.ap1 i (by omega) a ha).2.1 e2.symm))
  · by_cases e : i = J
    · subst e
      rw [if_pos rfl] at ha
      exact ⟨Nat.lt_of_lt_of_le (hap a ha).1 hg.size, hP _ (hap a ha).1 (hap a ha).2.1, (hap a ha).2.2⟩
    · rw [if_neg e] at ha
      obtain ⟨h1, h2, h3⟩ := h.ap1 i (by omega) a ha
      exact ⟨Nat.lt_of_lt_of_le h1 hg.size, hP _ h1 h2, h3⟩
  · rcases hw with h3 | h3
    · rw [h3] at hg2; exact h.ap2 g hg2 e
    · rw [h3] at hg2
      cases hg2
      exact absurd (h.own2.lt _ e).2 (Nat.lt_irrefl _)
/-- One more value. -/
theorem GP.value {B : Nat} {w w' : World} {vP vV vV' : Value} {J k : Nat} {A : Nat → Option Addr} {n c : Nat → Nat} {F : Nat → Nat → Int} {xs : List Int} (h : GP B w vP vV J k A n c F xs) (x : Int)
    (ho : w'.ownsRow B 28 2 vV' (k + 1) (ecells xs ++ ecells [x])) (hg : w.grownBy w' vV.ownBlock) (hw : vV'.ownBlock = vV.ownBlock ∨ vV'.ownBlock = some w.heap.size) :
    GP B w' vP vV' J (k + 1) A n c F (xs ++ [x]) := by
  have hV : ∀ g, g < w.heap.size → vV.ownBlock ≠ some g → vV'.ownBlock ≠ some g := fun g h1 h2 e => by
    rcases hw with h3 | h3
    · rw [h3] at e; exact h2 e
    · rw [h3] at e; cases e; omega
  refine ⟨owns_same h.own1 (fun g hg2 => hg.block g (h.own1.lt g hg2).2 (fun e => h.ap2 g hg2 e.symm)), by rw [ecells_append]; exact ho, fun i hi => ?_, fun i hi a ha => ?_, fun g hg2 => hV g (h.own1.lt g hg2).2 (h.ap2 g hg2)⟩
  · exact (h.els i hi).same (fun a ha => hg.block _ (h.ap1 i hi a ha).1 (fun e2 => (h.ap1 i hi a ha).2.2 e2.symm))
  · obtain ⟨h1, h2, h3⟩ := h.ap1 i hi a ha
    exact ⟨Nat.lt_of_lt_of_le h1 hg.size, h2, hV _ h1 h3⟩
/-- Where they lie. -/
theorem GP.polys {B : Nat} {w : World} {vP vV : Value} {J k : Nat} {A : Nat → Option Addr} {n c : Nat → Nat} {F : Nat → Nat → Int} {xs : List Int} (h : GP B w vP vV J k A n c F xs) (hJ : 0 < J) : ∃ g cc, vP = .slice (some ⟨g, 0, none⟩) J cc ∧ J ≤ cc ∧ PolysAt w g 0 J A n c F := by
  have ho := h.own1
  rcases ho.2 with ⟨_, h0⟩ | ⟨g, cap, cur, rfl, hbg, hgg, hnc, _⟩
  · omega
  · refine ⟨g, cap, rfl, hnc, fun i hi => ⟨?_, h.els i hi⟩⟩
    have := ho.cells (g := g) rfl i _ (pcells_at A n c hi)
    rw [show (Addr.add ⟨g, 0, none⟩ i) = ⟨g, 0 + i, none⟩ by unfold Addr.add; split <;> simp_all] at this
    exact this
theorem info_elems : (Tryd.prog.info? 22).map (fun i => (i.zero, i.size, i.bytes)) = some (some (.slice none 0 0), 1, 24) := by kernel_rfl
end Go.Proofs.YtailpfbdanhpmaaDoor
