import Derived.Test.YtebgfelbffgnbaaGreatDoorFE
import Derived.Test.YtebgfelbffgnbaaGreatDoorBE
import Derived.Test.YtebgfelbffgnbaaGreatDoorFG
import Derived.Laws.AppendOwn
/-
  The law's gadget of small numbers.
-/
namespace Go.Proofs.YtebgfelbffgnbaaGreatDoor
open Go.RowKit F Flow
set_option linter.unusedVariables false
attribute [local go_sem] eql_elem

/-- A small gadget as an argument. -/
def svlG (kd : Int) (A : Option Addr) (n c : Nat) (mn : Int) : Value := .agg #[.int .u8 kd, .slice A n c, .int .u8 mn]
/-- What Gadget answers for a polynomial. -/
def SgOut (f : Int) (N : Nat) (w : World) (e : Ending) (w' : World) : Prop := ∃ g c' cs', e = .returned (gvl 2 (some ⟨g, 0, none⟩) (N + 2) c' 0) ∧ Below w.heap.size w w' ∧ cs'.length = N + 2 ∧ InG f cs' ∧ cs'.getD (N + 1) 0 ≠ 0 ∧ ElemsAt w' (some ⟨g, 0, none⟩) cs' ∧ N + 2 ≤ c' ∧ w.heap.size ≤ g
end Go.Proofs.YtebgfelbffgnbaaGreatDoor

/-
  Lists of lists that a call made by append: GP: the lists so far, and the row of their values, apart from each other.
-/
namespace Go.Proofs.YtebgfelbffgnbaaGreatDoor
open Go.RowKit F Flow
set_option linter.unusedVariables false
set_option linter.unusedSimpArgs false
attribute [local go_sem] eql_elem

theorem ElemsAt.same {w w' : World} {A : Option Addr} {xs : List Int} (h : ElemsAt w A xs) (hs : ∀ a, A = some a → w'.heap[a.block]? = w.heap[a.block]?) : ElemsAt w' A xs := fun k hk => by
  obtain ⟨b, o, rfl, h0, h1⟩ := h k hk
  have e : w'.heap[b]? = w.heap[b]? := hs _ rfl
  exact ⟨b, o, rfl, (World.cell?_of_block (a := ⟨b, o + k * 2, none⟩) e).trans h0, (World.cell?_of_block (a := ⟨b, o + k * 2 + 1, none⟩) e).trans h1⟩
theorem owns_same {w w' : World} {base size : Nat} {e : TypeId} {v : Value} {n : Nat} {xs : List Value} (h : w.ownsRow base e size v n xs) (hs : ∀ g, v.ownBlock = some g → w'.heap[g]? = w.heap[g]?) : w'.ownsRow base e size v n xs := by
  refine ⟨h.1, ?_⟩
  rcases h.2 with hn | ⟨g, cap, cur, rfl, hbb, hgg, rest⟩
  · exact .inl hn
  · exact .inr ⟨g, cap, cur, rfl, hbb, (hs g rfl).trans hgg, rest⟩
/-- The lists' own words. -/
def pcells (A : Nat → Option Addr) (n c : Nat → Nat) (j : Nat) : List Value := (List.range j).map fun i => .slice (A i) (n i) (c i)
/-- J lists in vP, k numbers in vV. -/
structure GP (B : Nat) (w : World) (vP vV : Value) (J k : Nat) (A : Nat → Option Addr) (n c : Nat → Nat) (F : Nat → Nat → Int) (xs : List Int) : Prop where
  own1 : w.ownsRow B 25 1 vP J (pcells A n c J)
  own2 : w.ownsRow B 28 2 vV k (ecells xs)
  els : ∀ i, i < J → ElemsAt w (A i) (lst (F i) (n i))
  ap1 : ∀ i, i < J → ∀ a, A i = some a → a.block < w.heap.size ∧ vP.ownBlock ≠ some a.block ∧ vV.ownBlock ≠ some a.block
  ap2 : ∀ g, vP.ownBlock = some g → vV.ownBlock ≠ some g
theorem GP.up {B : Nat} {w w' : World} {vP vV : Value} {J k : Nat} {A : Nat → Option Addr} {n c : Nat → Nat} {F : Nat → Nat → Int} {xs : List Int} (h : GP B w vP vV J k A n c F xs) (hb : Below w.heap.size w w') : GP B w' vP vV J k A n c F xs :=
  ⟨ownsn_up h.own1 hb, ownsn_up h.own2 hb, fun i hi => (h.els i hi).up hb, fun i hi a ha => by
    obtain ⟨h1, h2⟩ := h.ap1 i hi a ha
    exact ⟨Nat.lt_of_lt_of_le h1 hb.size, h2⟩, h.ap2⟩
/-- One more value. -/
theorem GP.value {B : Nat} {w w' : World} {vP vV vV' : Value} {J k : Nat} {A : Nat → Option Addr} {n c : Nat → Nat} {F : Nat → Nat → Int} {xs : List Int} (h : GP B w vP vV J k A n c F xs) (x : Int)
    (ho : w'.ownsRow B 28 2 vV' (k + 1) (ecells xs ++ ecells [x])) (hg : w.grownBy w' vV.ownBlock) (hw : vV'.ownBlock = vV.ownBlock ∨ vV'.ownBlock = some w.heap.size) :
    GP B w' vP vV' J (k + 1) A n c F (xs ++ [x]) := by
  have hV : ∀ g, g < w.heap.size → vV.ownBlock ≠ some g → vV'.ownBlock ≠ some g := fun g h1 h2 e => by
    rcases hw with h3 | h3
    · rw [h3] at e; exact h2 e
    · rw [h3] at e; cases e; omega
  refine ⟨owns_same h.own1 (fun g hg2 => hg.block g (h.own1.lt g hg2).2 (fun e => h.ap2 g hg2 e.symm)), by rw [ecells_append]; exact ho, fun i hi => ?_, fun i hi a ha => ?_, fun g hg2 => hV g (h.own1.lt g hg2).2 (h.ap2 g hg2)⟩
  · exact (h.els i hi).same (fun a ha => hg.block _ (h.ap1 i hi a ha).1 (fun e2 => (h.ap1 i hi a ha).2.2 e2.symm))
  · obtain ⟨h1, h2, h3⟩ := h.ap1 i hi a ha
    exact ⟨Nat.lt_of_lt_of_le h1 hg.size, h2, hV _ h1 h3⟩
end Go.Proofs.YtebgfelbffgnbaaGreatDoor

/-
  What the law asks of a gadget of any polynomials.
-/
namespace Go.Proofs.YtebgfelbffgnbaaGreatDoor
open Go.RowKit F Flow
set_option linter.unusedVariables false
set_option linter.unusedSimpArgs false
attribute [local go_sem] eql_elem

set_option maxRecDepth 20000 in
set_option maxHeartbeats 4000000 in
theorem poly_evalG (f m : Int) (A : Option Addr) (n c : Nat) (C : World → Prop) (hup : ∀ w w', Below w.heap.size w w' → C w → C w') (ht : CinBy f (gvl 2 A n c m) 1 0 C) (B : Option Addr) (nb cb : Nat) (Good : (Nat → Int) → Nat → Prop)
    (hev : ∀ w, C w → Calls Tryz.prog 143 #[gvl 2 A n c m, .int .u8 f, .slice B nb cb] w fun e w' => ∃ P L, Good P L ∧ MOut P L w e w') (g o d : Nat) (w : World) (hC : C w) (hq : w.cell? ⟨g, o, none⟩ = some (.slice B nb cb)) :
    Calls Tryz.prog 109 #[gvl 2 A n c m, .int .u8 f, .slice (some ⟨g, o, none⟩) 1 d] w fun e w' => ∃ P L, Good P L ∧ MOut P L w e w' := by
  unfold CinBy gvl at *
  unfold MOut at *
  replace ht := Lib.hid ht
  replace hev := Lib.hid hev
  replace hup := Lib.hid hup
  have hgl := World.block_lt_of_cell? _ _ hq
  go_enter Tryz.func109, Tryz.ntmps109
  go_wp2_with fail
  refine name_calls (fun w1 => Below w.heap.size w w1 ∧ w1.heap[w.heap.size]? = some (.cells #[.int .u8 2, .slice A n c, .int .i64 m] 43 (0, 0))) ⟨(Below.refl _ _).alloc (Nat.le_refl _) _, alloc_at rfl⟩ ?_
  rintro w1 ⟨hb, k0⟩
  refine call_then (ht.out _ (hup.out _ _ hb hC)) ?_
  intro w2 hb2
  replace hb := below_next hb hb.size hb2
  replace k0 := keeps hb2 k0
  clear hb2
  obtain ⟨c0, c1, c2, _⟩ := blk3 k0
  go_wp2
  clear c0 c1 c2
  refine seg_start 10 (by kernel_rfl) (by decide) ?_
  intro v0 hv
  replace hb := below_next hb hb.size hv
  replace k0 := keeps hv k0
  clear hv
  have hq1 := (hb.cell hgl).trans hq
  refine seg_batch 5 [0, 1, 2, 3, 4] (by kernel_rfl) rfl (by kernel_rfl) (by kernel_rfl) (by kernel_rfl) ?_
  apply Exists.intro
  refine ⟨fun ι _ φ hφ => ?_, fun v1 hv => ?_⟩
  · have a0 : ∀ i, (φ i).cell? ⟨w.heap.size, 0, none⟩ = some (.int .u8 2) := fun i => (blk3 (keeps (hφ.old i) k0)).1
    have a1 : ∀ i, (φ i).cell? ⟨w.heap.size, 1, none⟩ = some (.slice A n c) := fun i => (blk3 (keeps (hφ.old i) k0)).2.1
    have a2 : ∀ i, (φ i).cell? ⟨w.heap.size, 2, none⟩ = some (.int .i64 m) := fun i => (blk3 (keeps (hφ.old i) k0)).2.2.1
    have a3 := fun i => hφ.cell hq1 i
    repeat (refine pick_step rfl ?_; go_big_quiet_step (fail))
    exact pick_end
  replace hb := below_next hb hb.size hv
  clear hv k0 hq1
  refine seg_one 5 _ (by decide) rfl (by kernel_rfl) ?_
  intro v2 K hv hK
  replace hb := below_next hb hb.size hv
  clear hv
  replace hK := Lib.hid hK
  go_simp
  refine (hev.out _ (hup.out _ _ hb hC)).mono ?_
  rintro e v3 ⟨P', L, hGd, A', rfl, hv, hLi⟩
  replace hGd := Lib.hid hGd
  refine hK.out _ _ hv ?_
  clear hK K
  replace hLi := Lib.hid (hLi.low hb.size)
  replace hb := below_next hb hb.size hv
  clear hv
  refine seg_batch 0 [6, 7, 8, 9] (by kernel_rfl) rfl (by kernel_rfl) (by kernel_rfl) (by kernel_rfl) ?_
  apply Exists.intro
  refine ⟨fun ι _ φ hφ => ?_, fun v4 hv => ?_⟩
  · repeat (refine pick_step rfl ?_; go_big_quiet_step (fail))
    exact pick_end
  replace hLi := Lib.hid (hLi.out.up hv)
  replace hb := below_next hb hb.size hv
  clear hv
  refine seg_done rfl (by kernel_rfl) ?_
  intro v5 hv
  replace hLi := Lib.hid (hLi.out.up hv)
  replace hb := below_next hb hb.size hv
  clear hv
  go_wp2
  go_ret2
  exact ⟨P', L, hGd.out, A', rfl, hb, hLi.out⟩
/-- The polynomials' values. -/
def vls (f t : Int) (n : Nat → Nat) (F : Nat → Nat → Int) (N : Nat) : List Int := (List.range N).map fun i => pf t (F i) (n i) % M f
end Go.Proofs.YtebgfelbffgnbaaGreatDoor
