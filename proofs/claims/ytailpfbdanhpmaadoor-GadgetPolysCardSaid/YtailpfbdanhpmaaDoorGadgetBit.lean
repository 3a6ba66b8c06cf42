/-
  Contracts of the gadget Bit.
-/
import Derived.Test.YtailpfbdanhpmaaDoorPolyAt
namespace Go.Proofs.YtailpfbdanhpmaaDoor
open Go.RowKit F Flow
set_option linter.unusedVariables false
attribute [local go_sem] eql_elem

/-- The gadget Bit's value, its coefficients at a block. -/
def bitVal (g : Nat) : Value := .agg #[.int .u8 2, .slice (some ⟨g, 0, none⟩) 3 3, .int .i64 0]
def bitCoefs (f : Int) : List Int := [0, neg f 1, 1]
theorem blk3 {w : World} {p : Nat} {t : TypeId} {u v x : Value} (h : w.heap[p]? = some (.cells #[u, v, x] t (0, 0))) :
    w.cell? ⟨p, 0, none⟩ = some u ∧ w.cell? ⟨p, 1, none⟩ = some v ∧ w.cell? ⟨p, 2, none⟩ = some x ∧ w.frozen? ⟨p, 0, none⟩ = false ∧ w.frozen? ⟨p, 1, none⟩ = false ∧ w.frozen? ⟨p, 2, none⟩ = false := by
  simp [World.cell?, World.frozen?, h]
theorem fin_true_one (a : Int) (a0 : 0 ≤ a) (a1 : a < M 1) (w : World) : Calls Tryd.prog 43 #[.int .u8 1, .agg #[.int .u64 (lo a), .int .u64 (hi a)]] w fun e w' => e = .returned (.bool true) ∧ Below w.heap.size w w' := by
  have h := fin_one a w
  simpa [a0, a1] using h
set_option maxHeartbeats 2000000 in
theorem gcoefs_one (g : Nat) (w : World) (hA : ElemsAt w (some ⟨g, 0, none⟩) (bitCoefs 1)) : Calls Tryd.prog 32 #[bitVal g, .int .u8 1] w fun e w' => e = .returned (.int .i64 0) ∧ Below w.heap.size w w' := by
  have hok : ∀ k, k < (bitCoefs 1).length → 0 ≤ (bitCoefs 1).getD k 0 ∧ (bitCoefs 1).getD k 0 < M 1 := by decide
  have hl : (bitCoefs 1).length = 3 := rfl
  have h4 : w.cell? ⟨g, 4, none⟩ = some (.int .u64 1) := by
    obtain ⟨b, o, e, h, _⟩ := hA 2 (by decide)
    cases e
    exact h
  have h5 : w.cell? ⟨g, 5, none⟩ = some (.int .u64 0) := by
    obtain ⟨b, o, e, _, h⟩ := hA 2 (by decide)
    cases e
    exact h
  have lg : g < w.heap.size := World.block_lt_of_cell? _ _ h4
  unfold bitVal
  generalize bitCoefs 1 = cs at *
  go_enter Tryd.func32, Tryd.ntmps32
  go_wp2
  refine name_wp (fun w1 => Below w.heap.size w w1) ((Below.refl _ _).alloc (Nat.le_refl _) _) ?_
  clear h4 h5
  intro w1 hb
  replace hl := Lib.hid hl
  replace hok := Lib.hid hok
  go_loopw [30] (fun i wr => ∃ k : Nat, k ≤ 3 ∧ i = .int .i64 (k : Int) ∧ Below w.heap.size w wr) (fun i _ => 3 - (intOf i).toNat)
  case atStart => exact ⟨0, by omega, rfl, hb⟩
  case round =>
    clear hb
    obtain ⟨k, hk, rfl, hb⟩ := hrel
    by_cases hlt : k < 3
    · have hlt' : k < cs.length := by rw [hl.out]; exact hlt
      have c0 : wr.cell? ⟨g, k * 2, none⟩ = some (.int .u64 (lo (cs.getD k 0))) := by
        obtain ⟨b, o, e, h, _⟩ := (hA.up hb) k hlt'
        cases e
        rw [Nat.zero_add] at h
        exact h
      have c1 : wr.cell? ⟨g, k * 2 + 1, none⟩ = some (.int .u64 (hi (cs.getD k 0))) := by
        obtain ⟨b, o, e, _, h⟩ := (hA.up hb) k hlt'
        cases e
        rw [Nat.zero_add] at h
        exact h
      have hx := hok.out k hlt'
      generalize cs.getD k 0 = x at *
      have i0 : (0 : Int) ≤ (k : Int) := by omega
      have i1 : (k : Int) < 3 := by omega
      have hin := Lib.hid (fin_true_one x hx.1 hx.2)
      have hb' := hb.alloc hb.size (.cells #[.int .u64 (lo x), .int .u64 (hi x)] 28 (0, 0))
      go_wp2_with fail
      refine call_then (hin.out _) ?_
      intro w5 hb5
      replace hb := below_next hb' hb'.size hb5
      clear hb' hb5 c0 c1
      go_wp2
      exact ⟨⟨k + 1, by omega, by go_num, hb⟩, by simp [intOf]; omega⟩
    · obtain rfl : k = 3 := by omega
      go_wp2
      go_ret
      exact ⟨rfl, hb⟩
theorem fin_true_two (a : Int) (a0 : 0 ≤ a) (a1 : a < M 2) (w : World) : Calls Tryd.prog 43 #[.int .u8 2, .agg #[.int .u64 (lo a), .int .u64 (hi a)]] w fun e w' => e = .returned (.bool true) ∧ Below w.heap.size w w' := by
  have h := fin_two a w
  simpa [a0, a1] using h
set_option maxHeartbeats 2000000 in
theorem gcoefs_two (g : Nat) (w : World) (hA : ElemsAt w (some ⟨g, 0, none⟩) (bitCoefs 2)) : Calls Tryd.prog 32 #[bitVal g, .int .u8 2] w fun e w' => e = .returned (.int .i64 0) ∧ Below w.heap.size w w' := by
  have hok : ∀ k, k < (bitCoefs 2).length → 0 ≤ (bitCoefs 2).getD k 0 ∧ (bitCoefs 2).getD k 0 < M 2 := by decide
  have hl : (bitCoefs 2).length = 3 := rfl
  have h4 : w.cell? ⟨g, 4, none⟩ = some (.int .u64 1) := by
    obtain ⟨b, o, e, h, _⟩ := hA 2 (by decide)
    cases e
    exact h
  have h5 : w.cell? ⟨g, 5, none⟩ = some (.int .u64 0) := by
    obtain ⟨b, o, e, _, h⟩ := hA 2 (by decide)
    cases e
    exact h
  have lg : g < w.heap.size := World.block_lt_of_cell? _ _ h4
  unfold bitVal
  generalize bitCoefs 2 = cs at *
  go_enter Tryd.func32, Tryd.ntmps32
  go_wp2
  refine name_wp (fun w1 => Below w.heap.size w w1) ((Below.refl _ _).alloc (Nat.le_refl _) _) ?_
  clear h4 h5
  intro w1 hb
  replace hl := Lib.hid hl
  replace hok := Lib.hid hok
  go_loopw [30] (fun i wr => ∃ k : Nat, k ≤ 3 ∧ i = .int .i64 (k : Int) ∧ Below w.heap.size w wr) (fun i _ => 3 - (intOf i).toNat)
  case atStart => exact ⟨0, by omega, rfl, hb⟩
  case round =>
    clear hb
    obtain ⟨k, hk, rfl, hb⟩ := hrel
    by_cases hlt : k < 3
    · have hlt' : k < cs.length := by rw [hl.out]; exact hlt
      have c0 : wr.cell? ⟨g, k * 2, none⟩ = some (.int .u64 (lo (cs.getD k 0))) := by
        obtain ⟨b, o, e, h, _⟩ := (hA.up hb) k hlt'
        cases e
        rw [Nat.zero_add] at h
        exact h
      have c1 : wr.cell? ⟨g, k * 2 + 1, none⟩ = some (.int .u64 (hi (cs.getD k 0))) := by
        obtain ⟨b, o, e, _, h⟩ := (hA.up hb) k hlt'
        cases e
        rw [Nat.zero_add] at h
        exact h
      have hx := hok.out k hlt'
      generalize cs.getD k 0 = x at *
      have i0 : (0 : Int) ≤ (k : Int) := by omega
      have i1 : (k : Int) < 3 := by omega
      have hin := Lib.hid (fin_true_two x hx.1 hx.2)
      have hb' := hb.alloc hb.size (.cells #[.int .u64 (lo x), .int .u64 (hi x)] 28 (0, 0))
      go_wp2_with fail
      refine call_then (hin.out _) ?_
      intro w5 hb5
      replace hb := below_next hb' hb'.size hb5
      clear hb' hb5 c0 c1
      go_wp2
      exact ⟨⟨k + 1, by omega, by go_num, hb⟩, by simp [intOf]; omega⟩
    · obtain rfl : k = 3 := by omega
      go_wp2
      go_ret
      exact ⟨rfl, hb⟩
end Go.Proofs.YtailpfbdanhpmaaDoor
