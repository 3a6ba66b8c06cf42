/-
  The law's walk: whether any gadget may be one.
-/
import Derived.Test.YtailpfbdanhpmaaDoorGcD
import Derived.Deep.DeepCutAuto
import Derived.Deep.CutBlock
namespace Go.Proofs.YtailpfbdanhpmaaDoor
open Go.RowKit F Flow
set_option linter.unusedVariables false
set_option linter.unusedSimpArgs false
attribute [local go_sem] eql_elem

/-- The document's In, of one field. -/
def RincBy (f : Int) : Prop := ∀ a w, Calls Tryd.prog 15 #[.int .i64 f, .agg #[.int .u64 (lo a), .int .u64 (hi a)]] w fun e w' => e = .returned (.bool (decide (a < M f))) ∧ Below w.heap.size w w'
theorem rinc_1 : RincBy 1 := fun a w => by
  go_enter Tryd.func15, Tryd.ntmps15
  go_wp2_with fail
  refine name_wp (fun w1 => Below w.heap.size w w1 ∧ w1.heap[w.heap.size]? = some (.cells #[.int .u64 (lo a), .int .u64 (hi a)] 28 (0, 0))) ⟨(Below.refl _ _).alloc (Nat.le_refl _) _, alloc_at rfl⟩ ?_
  rintro w1 ⟨hb, k0⟩
  refine wp_region_flow0 (by kernel_rfl) (by kernel_rfl) ?_
  intro ι _ φ hφ
  obtain ⟨c0, d0⟩ := hφ.two k0
  repeat (go_big_quiet_step ((first
    | (go_at_call 19; exact flow_call hφ (p_any _ _))
    | (go_at_call 18; exact flow_call hφ (less_any _ _ _)))))
  refine wpQuiet_nil ?_
  intro w2 hw2
  clear c0 d0 hφ
  go_wp2
  go_ret
  exact ⟨rfl, below_next hb hb.size hw2⟩
theorem rinc_2 : RincBy 2 := fun a w => by
  go_enter Tryd.func15, Tryd.ntmps15
  go_wp2_with fail
  refine name_wp (fun w1 => Below w.heap.size w w1 ∧ w1.heap[w.heap.size]? = some (.cells #[.int .u64 (lo a), .int .u64 (hi a)] 28 (0, 0))) ⟨(Below.refl _ _).alloc (Nat.le_refl _) _, alloc_at rfl⟩ ?_
  rintro w1 ⟨hb, k0⟩
  refine wp_region_flow0 (by kernel_rfl) (by kernel_rfl) ?_
  intro ι _ φ hφ
  obtain ⟨c0, d0⟩ := hφ.two k0
  repeat (go_big_quiet_step ((first
    | (go_at_call 19; exact flow_call hφ (p_any _ _))
    | (go_at_call 18; exact flow_call hφ (less_any _ _ _)))))
  refine wpQuiet_nil ?_
  intro w2 hw2
  clear c0 d0 hφ
  go_wp2
  go_ret
  exact ⟨rfl, below_next hb hb.size hw2⟩
theorem big_box (w : World) (k m : Int) (A : Option Addr) (n c : Nat) : (w.alloc (.cells #[.int .u8 k, .slice A n c, .int .i64 m] 34)).heap[w.heap.size]? = some (.cells #[.int .u8 k, .slice A n c, .int .i64 m] 34 (0, 0)) := alloc_at rfl
theorem slc_cell {w : World} {b : Nat} {v : Value} {t : TypeId} (h : w.heap[b]? = some (.cells #[v] t (0, 0))) : w.cell? ⟨b, 0, none⟩ = some v := by
  simp [World.cell?, h]
/-- What lasts. -/
def GkC (A B : Option Addr) (cs xs : List Int) (w : World) : Prop := Tabs w ∧ ElemsAt w A cs ∧ ElemsAt w B xs
theorem GkC.up {A B : Option Addr} {cs xs : List Int} (w w' : World) (hb : Below w.heap.size w w') (h : GkC A B cs xs w) : GkC A B cs xs w' := ⟨h.1.up hb, h.2.1.up hb, h.2.2.up hb⟩
set_option maxRecDepth 20000 in
set_option maxHeartbeats 4000000 in
theorem gadgetChecks_none (f k m : Int) (h : NoField f) (A B : Option Addr) (n c L cb : Nat) (hn : n ≤ 20) (hL : L ≤ 40) (cs xs : List Int) (w : World) (hC : GkC A B cs xs w) :
    Calls Tryd.prog 4 #[.int .u8 f, gvl k A n c m, .slice B L cb] w fun e w' => e = .returned (.bool true) ∧ Below w.heap.size w w' := by
  have hans : Ans f (gvl k A n c m) 10 B L cb (GkC A B cs xs) := ans_bad (fun w w' hb h => h.up w w' hb) (by decide) (fun w _ => gch_none f k h A n c m w)
  have hof := Lib.hid hans.of
  have hpl := Lib.hid hans.poly
  have hck := Lib.hid hans.chk
  unfold ChkBy at hck
  unfold OfR at hof
  unfold PlR at hpl
  unfold gvl at hof hpl hck
  clear hans
  have gaw := Lib.hid gawake
  have n1 := h.one
  have n2 := h.two
  have n3 : (f != 1) = true := by simp [bne, n1]
  have n4 : (f != 2) = true := by simp [bne, n2]
  have y1 : ¬ ((20 : Int) < (n : Int)) := by omega
  have y2 : ¬ ((40 : Int) < (L : Int)) := by omega
  unfold gvl
  go_enter Tryd.func4, Tryd.ntmps4
  go_wp2_with fail
  refine name_calls (fun w1 => Below w.heap.size w w1 ∧ w1.heap[w.heap.size]? = some (.cells #[.int .u8 k, .slice A n c, .int .i64 m] 34 (0, 0))) ⟨(Below.refl _ _).alloc (Nat.le_refl _) _, alloc_at rfl⟩ ?_
  rintro w1 ⟨hb, k0⟩
  refine call_then (gaw.out _) ?_
  intro w2 hb2
  replace hb := below_next hb hb.size hb2
  replace k0 := keeps hb2 k0
  clear hb2
  obtain ⟨c0, c1, c2, _⟩ := blk3 k0
  go_wp2_with fail
  clear c0 c1 c2
  refine name_calls (fun w3 => Below w.heap.size w w3 ∧ w3.heap[w.heap.size]? = some (.cells #[.int .u8 k, .slice A n c, .int .i64 m] 34 (0, 0))) ⟨hb, k0⟩ ?_
  clear hb k0
  rintro w3 ⟨hb, k0⟩
  refine (hof.out _ (GkC.up _ _ hb hC)).mono ?_
  rintro e w4 ⟨x, y, e0, rfl, hW1, hb2⟩
  obtain ⟨rfl, rfl, rfl⟩ := hW1 (by decide); clear hW1
  replace hb := below_next hb hb.size hb2
  replace k0 := keeps hb2 k0
  clear hb2 hof
  obtain ⟨c0, c1, c2, _⟩ := blk3 k0
  have l0 := lt_of_get k0
  have l1 : w.heap.size ≠ w4.heap.size := Nat.ne_of_lt l0
  go_wp2_with fail
  have hb5 := (hb.alloc hb.size (.cells #[.int .u64 0, .int .u64 0] 28 (0, 0))).alloc (by simp; exact Nat.le_succ_of_le hb.size) (.cells #[.slice B L cb] 22 (0, 0))
  refine name_calls (fun w5 => Below w.heap.size w w5 ∧ w5.heap[w.heap.size]? = some (.cells #[.int .u8 k, .slice A n c, .int .i64 m] 34 (0, 0)) ∧ w5.heap[w4.heap.size]? = some (.cells #[.int .u64 0, .int .u64 0] 28 (0, 0)) ∧ w5.cell? ⟨w4.heap.size + 1, 0, none⟩ = some (.slice B L cb)) ⟨hb5, alloc_keeps (alloc_keeps k0), alloc_keeps (alloc_at rfl), ?_⟩ ?_
  · have h : ((w4.alloc (.cells #[.int .u64 0, .int .u64 0] 28 (0, 0))).alloc (.cells #[.slice B L cb] 22 (0, 0))).heap[w4.heap.size + 1]? = some (.cells #[.slice B L cb] 22 (0, 0)) := alloc_at (by simp)
    exact slc_cell h
  clear hb k0 c0 c1 c2 hb5 l0 l1
  generalize w4.heap.size + 1 = pb at *
  generalize w4.heap.size = p12 at *
  rintro w5 ⟨hb, k0, k12, kb⟩
  refine (hpl.out _ _ _ (GkC.up _ _ hb hC) kb).mono ?_
  rintro e w6 ⟨A6, L6, e6, rfl, hW2, hb2⟩
  obtain ⟨rfl, rfl, rfl⟩ := hW2 (by decide); clear hW2
  replace hb := below_next hb hb.size hb2
  replace k0 := keeps hb2 k0
  replace k12 := keeps hb2 k12
  clear hb2 hpl kb
  obtain ⟨c0, c1, c2, _⟩ := blk3 k0
  go_wp2_with fail
  clear c0 c1 c2
  refine call_then (hck.out _ (GkC.up _ _ hb hC)) ?_
  intro w7 hb2
  replace hb := below_next hb hb.size hb2
  replace k12 := keeps hb2 k12
  clear hb2 hck k0
  obtain ⟨d0, d1, _, _⟩ := blk2 k12
  skip
  clear hC
  go_wp2
  go_ret
  exact ⟨rfl, hb⟩
end Go.Proofs.YtailpfbdanhpmaaDoor
