/-
  The tables that the program lists.
-/
import Derived.Test.YtfklkplnbmhddaaDoorKkA
import Derived.Test.YtfklkplnbmhddaaDoorCard
namespace Go.Proofs.YtfklkplnbmhddaaDoor
open Go.RowKit Flow
set_option linter.unusedVariables false
set_option linter.unusedSimpArgs false

theorem table_of {H : Type} {enc : TypeId × Value → H} {P : Program} {w : World} {sp : Nat → Bool} {held : Bool} {nm : String} {g : Nat} {t e : TypeId} {k : IntKind} {n : Nat} (ht : P.underlying t = some (.array n e)) (he : P.underlying e = some (.int k)) (hce : P.cellsOf e = 1)
    {cs : Array Value} {fuel : Nat} {zs : List Int} {p : List MemPlace} (hg : P.globalNamed nm = some g) (hv : w.var? P nm = some cs)
    (hd : DataW.trod enc P w 0 sp held fuel t cs.toList = some (.agg (zs.map fun z => .lit (.int k z)), p)) : ∀ i z, zs[i]? = some z → w.cell? ⟨g, i, none⟩ = some (.int k z) := by
  intro i z hz
  obtain ⟨xs, m1, _, hx1, hlen, hn3, hel⟩ := DataW.trod_array ht hd
  simp only [Prod.mk.injEq, DataW.agg.injEq] at hx1
  have hil : i < zs.length := (List.getElem?_eq_some_iff.1 hz).1
  have hxl : xs.length = zs.length := by have := congrArg List.length hx1.1; simpa using this.symm
  have hi : i < n := by omega
  have h0 := hel i hi
  rw [List.getElem?_eq_getElem (show i < xs.length by omega)] at h0
  obtain ⟨a, e1, e2, _⟩ := DataW.trod_int he h0
  have hfst : (xs[i]).1 = .lit (.int k z) := by
    have := congrArg (fun l => l[i]?) hx1.1
    simp only [List.getElem?_map, hz, Option.map_some] at this
    rw [List.getElem?_eq_getElem (show i < xs.length by omega)] at this
    simpa using this.symm
  rw [e2] at hfst
  have ha : a = z := by simpa using hfst
  subst ha
  have := World.var?_cell hg hv i
  rw [this]
  rw [hce, Nat.mul_one] at e1
  have h2 := congrArg (fun l => l[0]?) e1
  simp [List.getElem?_take, List.getElem?_drop] at h2
  simpa using h2
/-- The tables, as they lie. -/
structure Tabs (w : World) : Prop where
  tn : ∀ i, i < 25 → w.cell? ⟨1, i, none⟩ = some (.int .i64 ((turnsT.getD i 0 : Nat) : Int))
  cn : ∀ i, i < 12 → w.cell? ⟨0, i, none⟩ = some (.int .u64 ((constsT.getD i 0 : Nat) : Int))
theorem Tabs.up {w w' : World} (h : Tabs w) (hb : Below w.heap.size w w') : Tabs w' :=
  ⟨fun i hi => (hb.cell (World.block_lt_of_cell? _ _ (h.tn i hi))).trans (h.tn i hi), fun i hi => (hb.cell (World.block_lt_of_cell? _ _ (h.cn i hi))).trans (h.cn i hi)⟩
theorem Tabs.but {w w' : World} {b : Nat} (h : Tabs w) (hb : But b w w') (h1 : 1 < b) : Tabs w' := by
  refine ⟨fun i hi => ?_, fun i hi => ?_⟩
  · have q := h.tn i hi
    rw [World.cell?_of_block (w := w) (a := ⟨1, i, none⟩) (hb.block 1 (World.block_lt_of_cell? _ _ q) (by omega))]
    exact q
  · have q := h.cn i hi
    rw [World.cell?_of_block (w := w) (a := ⟨0, i, none⟩) (hb.block 0 (World.block_lt_of_cell? _ _ q) (by omega))]
    exact q
theorem gTurns : Tryd.prog.globalNamed "tallyman/keccak.turns" = some 1 := by kernel_rfl
theorem gConsts : Tryd.prog.globalNamed "tallyman/keccak.constants" = some 0 := by kernel_rfl
theorem tTurns : (Tryd.prog.globals[1]?).map (·.type) = some 110 := by kernel_rfl
theorem tConsts : (Tryd.prog.globals[0]?).map (·.type) = some 107 := by kernel_rfl
theorem tabs_of {W : World} (h : laidMetH Tryd.prog [("tallyman/keccak.turns", Rows.laid_tallyman_keccak_turns), ("tallyman/keccak.constants", Rows.laid_tallyman_keccak_constants)] W) : Tabs W := by
  rw [MakeChecks.laidMetH_plain _ _ _ (by kernel_rfl)] at h
  obtain ⟨ps, ⟨g0, t0, cs0, f0, p0, q0, hg0, ht0, hv0, hd0, ⟨g1, t1, cs1, f1, p1, q1, hg1, ht1, hv1, hd1, _, _⟩, _⟩, _, _⟩ := h
  obtain rfl := Option.some.inj (gTurns.symm.trans hg0)
  obtain rfl := Option.some.inj (gConsts.symm.trans hg1)
  obtain rfl := Option.some.inj (tTurns.symm.trans ht0)
  obtain rfl := Option.some.inj (tConsts.symm.trans ht1)
  have h0 := table_of (zs := turnsT.map fun n => ((n : Nat) : Int)) Tryd.underlying110 Tryd.underlying3 (by kernel_rfl) hg0 hv0 hd0
  have h1 := table_of (zs := constsT.map fun n => ((n : Nat) : Int)) Tryd.underlying107 Tryd.underlying56 (by kernel_rfl) hg1 hv1 hd1
  refine ⟨fun i hi => h0 i _ ?_, fun i hi => h1 i _ ?_⟩
  · have hl : i < turnsT.length := hi
    rw [List.getElem?_map, List.getElem?_eq_getElem hl, List.getD_eq_getElem?_getD, List.getElem?_eq_getElem hl]
    rfl
  · have hl : i < constsT.length := hi
    rw [List.getElem?_map, List.getElem?_eq_getElem hl, List.getD_eq_getElem?_getD, List.getElem?_eq_getElem hl]
    rfl
end Go.Proofs.YtfklkplnbmhddaaDoor
