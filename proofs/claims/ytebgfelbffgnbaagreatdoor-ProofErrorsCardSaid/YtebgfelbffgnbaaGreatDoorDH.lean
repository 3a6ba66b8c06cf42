import Derived.Test.YtebgfelbffgnbaaGreatDoorPolyAt
import Derived.Test.YtebgfelbffgnbaaGreatDoorBE
/-
  Contracts of the gadget Bit.
-/
namespace Go.Proofs.YtebgfelbffgnbaaGreatDoor
open Go.RowKit F Flow
set_option linter.unusedVariables false
attribute [local go_sem] eql_elem

/-- The gadget Bit's value, its coefficients at a block. -/
def bitVal (g : Nat) : Value := .agg #[.int .u8 2, .slice (some ⟨g, 0, none⟩) 3 3, .int .i64 0]
def bitCoefs (f : Int) : List Int := [0, neg f 1, 1]
theorem blk3 {w : World} {p : Nat} {t : TypeId} {u v x : Value} (h : w.heap[p]? = some (.cells #[u, v, x] t (0, 0))) :
    w.cell? ⟨p, 0, none⟩ = some u ∧ w.cell? ⟨p, 1, none⟩ = some v ∧ w.cell? ⟨p, 2, none⟩ = some x ∧ w.frozen? ⟨p, 0, none⟩ = false ∧ w.frozen? ⟨p, 1, none⟩ = false ∧ w.frozen? ⟨p, 2, none⟩ = false := by
  simp [World.cell?, World.frozen?, h]
set_option maxHeartbeats 2000000 in
theorem gbit_one (w : World) : Calls Tryz.prog 60 #[.int .u8 1] w fun e w' => ∃ g, e = .returned (bitVal g) ∧ Below w.heap.size w w' ∧ Row w' g (bitCoefs 1) := by
  have hone := Lib.hid (fone_any 1 (by omega))
  have hneg : ∀ w, Calls Tryz.prog 108 #[.int .u8 1, .agg #[.int .u64 1, .int .u64 0]] w fun e w' => e = .returned (.agg #[.int .u64 (lo (neg 1 1)), .int .u64 (hi (neg 1 1))]) ∧ Below w.heap.size w w' := fun w => fneg_one 1 w
  unfold bitCoefs bitVal
  generalize neg 1 1 = m at *
  replace hneg := Lib.hid hneg
  go_enter Tryz.func60, Tryz.ntmps60
  go_wp2_with fail
  refine name_calls (fun w1 => Below w.heap.size w w1 ∧ w1.heap[w.heap.size]? = some (.cells #[.int .u8 0, .slice none 0 0, .int .i64 0] 43 (0, 0))) ⟨(Below.refl _ _).alloc (Nat.le_refl _) _, alloc_at rfl⟩ ?_
  rintro w1 ⟨hb, k0⟩
  refine call_then (hone.out _) ?_
  intro w2 hb2
  replace hb := below_next hb hb.size hb2
  replace k0 := keeps hb2 k0
  clear hb2
  go_wp2_with fail
  refine call_then (hneg.out _) ?_
  intro w2 hb2
  replace hb := below_next hb hb.size hb2
  replace k0 := keeps hb2 k0
  clear hb2
  go_wp2_with fail
  refine call_then (hone.out _) ?_
  intro w2 hb2
  replace hb := below_next hb hb.size hb2
  replace k0 := keeps hb2 k0
  clear hb2
  obtain ⟨c0, c1, c2, f0, f1, f2⟩ := blk3 k0
  have l0 := lt_of_get k0
  have l1 := Nat.ne_of_lt l0
  go_wp2
  have k1 : ((((w2.setCell ⟨w.heap.size, 0, none⟩ (.int .u8 2)).setCell ⟨w.heap.size, 1, none⟩ (.slice (some ⟨w2.heap.size, 0, none⟩) 3 3)).setCell ⟨w.heap.size, 2, none⟩ (.int .i64 0))).heap[w.heap.size]? = some (.cells #[.int .u8 2, .slice (some ⟨w2.heap.size, 0, none⟩) 3 3, .int .i64 0] 43 (0, 0)) :=
    (store1 (store1 (store1 k0 (o := 0) (v := .int .u8 2)) (o := 1) (v := .slice (some ⟨w2.heap.size, 0, none⟩) 3 3)) (o := 2) (v := .int .i64 0)).trans rfl
  have hb3 := ((hb.setCell (p := ⟨w.heap.size, 0, none⟩) (Nat.le_refl _) (.int .u8 2)).setCell (p := ⟨w.heap.size, 1, none⟩) (Nat.le_refl _) (.slice (some ⟨w2.heap.size, 0, none⟩) 3 3)).setCell (p := ⟨w.heap.size, 2, none⟩) (Nat.le_refl _) (.int .i64 0)
  have k2 := alloc_keeps (o := .cells #[.int .u64 0, .int .u64 0, .int .u64 (lo m), .int .u64 (hi m), .int .u64 1, .int .u64 0] 28 (0, 0)) k1
  obtain ⟨p0, p1, p2, _⟩ := blk3 k2
  refine bodyPost_ret (v := .agg #[.int .u8 2, .slice (some ⟨w2.heap.size, 0, none⟩) 3 3, .int .i64 0]) (by simp [results, Tryz.results60, go_sem, p0, p1, p2]) rfl ⟨w2.heap.size, rfl, hb3.alloc hb3.size _, ?_⟩
  exact alloc_at (by simp)
set_option maxHeartbeats 2000000 in
theorem gbit_two (w : World) : Calls Tryz.prog 60 #[.int .u8 2] w fun e w' => ∃ g, e = .returned (bitVal g) ∧ Below w.heap.size w w' ∧ Row w' g (bitCoefs 2) := by
  have hone := Lib.hid (fone_any 2 (by omega))
  have hneg : ∀ w, Calls Tryz.prog 108 #[.int .u8 2, .agg #[.int .u64 1, .int .u64 0]] w fun e w' => e = .returned (.agg #[.int .u64 (lo (neg 2 1)), .int .u64 (hi (neg 2 1))]) ∧ Below w.heap.size w w' := fun w => fneg_two 1 (by decide) (by decide) w
  unfold bitCoefs bitVal
  generalize neg 2 1 = m at *
  replace hneg := Lib.hid hneg
  go_enter Tryz.func60, Tryz.ntmps60
  go_wp2_with fail
  refine name_calls (fun w1 => Below w.heap.size w w1 ∧ w1.heap[w.heap.size]? = some (.cells #[.int .u8 0, .slice none 0 0, .int .i64 0] 43 (0, 0))) ⟨(Below.refl _ _).alloc (Nat.le_refl _) _, alloc_at rfl⟩ ?_
  rintro w1 ⟨hb, k0⟩
  refine call_then (hone.out _) ?_
  intro w2 hb2
  replace hb := below_next hb hb.size hb2
  replace k0 := keeps hb2 k0
  clear hb2
  go_wp2_with fail
  refine call_then (hneg.out _) ?_
  intro w2 hb2
  replace hb := below_next hb hb.size hb2
  replace k0 := keeps hb2 k0
  clear hb2
  go_wp2_with fail
  refine call_then (hone.out _) ?_
  intro w2 hb2
  replace hb := below_next hb hb.size hb2
  replace k0 := keeps hb2 k0
  clear hb2
  obtain ⟨c0, c1, c2, f0, f1, f2⟩ := blk3 k0
  have l0 := lt_of_get k0
  have l1 := Nat.ne_of_lt l0
  go_wp2
  have k1 : ((((w2.setCell ⟨w.heap.size, 0, none⟩ (.int .u8 2)).setCell ⟨w.heap.size, 1, none⟩ (.slice (some ⟨w2.heap.size, 0, none⟩) 3 3)).setCell ⟨w.heap.size, 2, none⟩ (.int .i64 0))).heap[w.heap.size]? = some (.cells #[.int .u8 2, .slice (some ⟨w2.heap.size, 0, none⟩) 3 3, .int .i64 0] 43 (0, 0)) :=
    (store1 (store1 (store1 k0 (o := 0) (v := .int .u8 2)) (o := 1) (v := .slice (some ⟨w2.heap.size, 0, none⟩) 3 3)) (o := 2) (v := .int .i64 0)).trans rfl
  have hb3 := ((hb.setCell (p := ⟨w.heap.size, 0, none⟩) (Nat.le_refl _) (.int .u8 2)).setCell (p := ⟨w.heap.size, 1, none⟩) (Nat.le_refl _) (.slice (some ⟨w2.heap.size, 0, none⟩) 3 3)).setCell (p := ⟨w.heap.size, 2, none⟩) (Nat.le_refl _) (.int .i64 0)
  have k2 := alloc_keeps (o := .cells #[.int .u64 0, .int .u64 0, .int .u64 (lo m), .int .u64 (hi m), .int .u64 1, .int .u64 0] 28 (0, 0)) k1
  obtain ⟨p0, p1, p2, _⟩ := blk3 k2
  refine bodyPost_ret (v := .agg #[.int .u8 2, .slice (some ⟨w2.heap.size, 0, none⟩) 3 3, .int .i64 0]) (by simp [results, Tryz.results60, go_sem, p0, p1, p2]) rfl ⟨w2.heap.size, rfl, hb3.alloc hb3.size _, ?_⟩
  exact alloc_at (by simp)
theorem fin_true_one (a : Int) (a0 : 0 ≤ a) (a1 : a < M 1) (w : World) : Calls Tryz.prog 163 #[.int .u8 1, .agg #[.int .u64 (lo a), .int .u64 (hi a)]] w fun e w' => e = .returned (.bool true) ∧ Below w.heap.size w w' := by
  have h := fin_one a w
  simpa [a0, a1] using h
set_option maxHeartbeats 2000000 in
theorem gcoefs_one (g : Nat) (w : World) (hA : ElemsAt w (some ⟨g, 0, none⟩) (bitCoefs 1)) : Calls Tryz.prog 152 #[bitVal g, .int .u8 1] w fun e w' => e = .returned (.int .i64 0) ∧ Below w.heap.size w w' := by
  have hok : ∀ k, k < (bitCoefs 1).length → 0 ≤ (bitCoefs 1).getD k 0 ∧ (bitCoefs 1).getD k 0 < M 1 := by decide
  have hl : (bitCoefs 1).length = 3 := rfl
  have h4 : w.cell? ⟨g, 4, none⟩ = some (.int .u64 1) := by
    obtain ⟨b, o, e, h, _⟩ := hA 2 (by decide)
    cases e
    exact h
  have h5 : w.cell? ⟨g, 5, none⟩ = some (.int .u64 0) := by
    obtain ⟨b, o, e, _, h⟩ := hA 2 (by decide)
    cases e
    exact h
  have lg : g < w.heap.size := World.block_lt_of_cell? _ _ h4
  unfold bitVal
  generalize bitCoefs 1 = cs at *
  go_enter Tryz.func152, Tryz.ntmps152
  go_wp2
  refine name_wp (fun w1 => Below w.heap.size w w1) ((Below.refl _ _).alloc (Nat.le_refl _) _) ?_
  clear h4 h5
  intro w1 hb
  replace hl := Lib.hid hl
  replace hok := Lib.hid hok
  go_loopw [30] (fun i wr => ∃ k : Nat, k ≤ 3 ∧ i = .int .i64 (k : Int) ∧ Below w.heap.size w wr) (fun i _ => 3 - (intOf i).toNat)
  case atStart => exact ⟨0, by omega, rfl, hb⟩
  case round =>
    clear hb
    obtain ⟨k, hk, rfl, hb⟩ := hrel
    by_cases hlt : k < 3
    · have hlt' : k < cs.length := by rw [hl.out]; exact hlt
      have c0 : wr.cell? ⟨g, k * 2, none⟩ = some (.int .u64 (lo (cs.getD k 0))) := by
        obtain ⟨b, o, e, h, _⟩ := (hA.up hb) k hlt'
        cases e
        rw [Nat.zero_add] at h
        exact h
      have c1 : wr.cell? ⟨g, k * 2 + 1, none⟩ = some (.int .u64 (hi (cs.getD k 0))) := by
        obtain ⟨b, o, e, _, h⟩ := (hA.up hb) k hlt'
        cases e
        rw [Nat.zero_add] at h
        exact h
      have hx := hok.out k hlt'
      generalize cs.getD k 0 = x at *
      have i0 : (0 : Int) ≤ (k : Int) := by omega
      have i1 : (k : Int) < 3 := by omega
      have hin := Lib.hid (fin_true_one x hx.1 hx.2)
      have hb' := hb.alloc hb.size (.cells #[.int .u64 (lo x), .int .u64 (hi x)] 28 (0, 0))
      go_wp2_with fail
      refine call_then (hin.out _) ?_
      intro w5 hb5
      replace hb := below_next hb' hb'.size hb5
      clear hb' hb5 c0 c1
      go_wp2
      exact ⟨⟨k + 1, by omega, by go_num, hb⟩, by simp [intOf]; omega⟩
    · obtain rfl : k = 3 := by omega
      go_wp2
      go_ret
      exact ⟨rfl, hb⟩
theorem fin_true_two (a : Int) (a0 : 0 ≤ a) (a1 : a < M 2) (w : World) : Calls Tryz.prog 163 #[.int .u8 2, .agg #[.int .u64 (lo a), .int .u64 (hi a)]] w fun e w' => e = .returned (.bool true) ∧ Below w.heap.size w w' := by
  have h := fin_two a w
  simpa [a0, a1] using h
set_option maxHeartbeats 2000000 in
theorem gcoefs_two (g : Nat) (w : World) (hA : ElemsAt w (some ⟨g, 0, none⟩) (bitCoefs 2)) : Calls Tryz.prog 152 #[bitVal g, .int .u8 2] w fun e w' => e = .returned (.int .i64 0) ∧ Below w.heap.size w w' := by
  have hok : ∀ k, k < (bitCoefs 2).length → 0 ≤ (bitCoefs 2).getD k 0 ∧ (bitCoefs 2).getD k 0 < M 2 := by decide
  have hl : (bitCoefs 2).length = 3 := rfl
  have h4 : w.cell? ⟨g, 4, none⟩ = some (.int .u64 1) := by
    obtain ⟨b, o, e, h, _⟩ := hA 2 (by decide)
    cases e
    exact h
  have h5 : w.cell? ⟨g, 5, none⟩ = some (.int .u64 0) := by
    obtain ⟨b, o, e, _, h⟩ := hA 2 (by decide)
    cases e
    exact h
  have lg : g < w.heap.size := World.block_lt_of_cell? _ _ h4
  unfold bitVal
  generalize bitCoefs 2 = cs at *
  go_enter Tryz.func152, Tryz.ntmps152
  go_wp2
  refine name_wp (fun w1 => Below w.heap.size w w1) ((Below.refl _ _).alloc (Nat.le_refl _) _) ?_
  clear h4 h5
  intro w1 hb
  replace hl := Lib.hid hl
  replace hok := Lib.hid hok
  go_loopw [30] (fun i wr => ∃ k : Nat, k ≤ 3 ∧ i = .int .i64 (k : Int) ∧ Below w.heap.size w wr) (fun i _ => 3 - (intOf i).toNat)
  case atStart => exact ⟨0, by omega, rfl, hb⟩
  case round =>
    clear hb
    obtain ⟨k, hk, rfl, hb⟩ := hrel
    by_cases hlt : k < 3
    · have hlt' : k < cs.length := by rw [hl.out]; exact hlt
      have c0 : wr.cell? ⟨g, k * 2, none⟩ = some (.int .u64 (lo (cs.getD k 0))) := by
        obtain ⟨b, o, e, h, _⟩ := (hA.up hb) k hlt'
        cases e
        rw [Nat.zero_add] at h
        exact h
      have c1 : wr.cell? ⟨g, k * 2 + 1, none⟩ = some (.int .u64 (hi (cs.getD k 0))) := by
        obtain ⟨b, o, e, _, h⟩ := (hA.up hb) k hlt'
        cases e
        rw [Nat.zero_add] at h
        exact h
      have hx := hok.out k hlt'
      generalize cs.getD k 0 = x at *
      have i0 : (0 : Int) ≤ (k : Int) := by omega
      have i1 : (k : Int) < 3 := by omega
      have hin := Lib.hid (fin_true_two x hx.1 hx.2)
      have hb' := hb.alloc hb.size (.cells #[.int .u64 (lo x), .int .u64 (hi x)] 28 (0, 0))
      go_wp2_with fail
      refine call_then (hin.out _) ?_
      intro w5 hb5
      replace hb := below_next hb' hb'.size hb5
      clear hb' hb5 c0 c1
      go_wp2
      exact ⟨⟨k + 1, by omega, by go_num, hb⟩, by simp [intOf]; omega⟩
    · obtain rfl : k = 3 := by omega
      go_wp2
      go_ret
      exact ⟨rfl, hb⟩
end Go.Proofs.YtebgfelbffgnbaaGreatDoor

/-
  Contracts of the gadget Bit: Check, Of.
-/
namespace Go.Proofs.YtebgfelbffgnbaaGreatDoor
open Go.RowKit F Flow
set_option linter.unusedVariables false
attribute [local go_sem] eql_elem

theorem garity (g : Nat) (w : World) : Calls Tryz.prog 16 #[bitVal g] w fun e w' => e = .returned (.int .i64 1) ∧ Below w.heap.size w w' := by
  unfold bitVal
  go_enter Tryz.func16, Tryz.ntmps16
  go_wp2
  go_ret
  exact ⟨rfl, (Below.refl _ _).alloc (Nat.le_refl _) _⟩
set_option maxHeartbeats 2000000 in
theorem gcheck_one (g : Nat) (w : World) (hA : ElemsAt w (some ⟨g, 0, none⟩) (bitCoefs 1)) : Calls Tryz.prog 128 #[bitVal g, .int .u8 1] w fun e w' => e = .returned (.int .i64 0) ∧ Below w.heap.size w w' := by
  have hcs := Lib.hid (fun w' h => gcoefs_one g w' h)
  unfold bitVal at *
  go_enter Tryz.func128, Tryz.ntmps128
  go_wp2_with fail
  refine name_calls (fun w1 => Below w.heap.size w w1 ∧ w1.heap[w.heap.size]? = some (.cells #[.int .u8 2, .slice (some ⟨g, 0, none⟩) 3 3, .int .i64 0] 43 (0, 0))) ⟨(Below.refl _ _).alloc (Nat.le_refl _) _, alloc_at rfl⟩ ?_
  rintro w1 ⟨hb, k0⟩
  refine call_then (fvalid_one _) ?_
  intro w2 hb2
  replace hb := below_next hb hb.size hb2
  replace k0 := keeps hb2 k0
  clear hb2
  obtain ⟨c0, c1, c2, _⟩ := blk3 k0
  go_wp2_with fail
  refine call_then (hcs.out _ (hA.up hb)) ?_
  intro w2 hb2
  replace hb := below_next hb hb.size hb2
  replace k0 := keeps hb2 k0
  clear hb2
  go_wp2
  go_ret
  exact ⟨rfl, hb⟩
set_option maxHeartbeats 2000000 in
theorem gcheckin_one (g : Nat) (w : World) (hA : ElemsAt w (some ⟨g, 0, none⟩) (bitCoefs 1)) : Calls Tryz.prog 88 #[bitVal g, .int .u8 1, .int .i64 1] w fun e w' => e = .returned (.int .i64 0) ∧ Below w.heap.size w w' := by
  have hcs := Lib.hid (fun w' h => gcheck_one g w' h)
  have har := Lib.hid (fun w' => garity g w')
  unfold bitVal at *
  go_enter Tryz.func88, Tryz.ntmps88
  go_wp2_with fail
  refine name_calls (fun w1 => Below w.heap.size w w1 ∧ w1.heap[w.heap.size]? = some (.cells #[.int .u8 2, .slice (some ⟨g, 0, none⟩) 3 3, .int .i64 0] 43 (0, 0))) ⟨(Below.refl _ _).alloc (Nat.le_refl _) _, alloc_at rfl⟩ ?_
  rintro w1 ⟨hb, k0⟩
  refine call_then (hcs.out _ (hA.up hb)) ?_
  intro w2 hb2
  replace hb := below_next hb hb.size hb2
  replace k0 := keeps hb2 k0
  clear hb2
  obtain ⟨c0, c1, c2, _⟩ := blk3 k0
  go_wp2_with fail
  clear c0 c1 c2
  refine call_then (har.out _) ?_
  intro w2 hb2
  replace hb := below_next hb hb.size hb2
  replace k0 := keeps hb2 k0
  clear hb2
  go_wp2
  go_ret
  exact ⟨rfl, hb⟩
set_option maxHeartbeats 2000000 in
theorem gof_one (g q : Nat) (a : Int) (a0 : 0 ≤ a) (a1 : a < 340282366920938463463374607431768211456) (w : World) (hA : ElemsAt w (some ⟨g, 0, none⟩) (bitCoefs 1)) (hq : w.heap[q]? = some (.cells #[.int .u64 (lo a), .int .u64 (hi a)] 28 (0, 0))) :
    Calls Tryz.prog 33 #[bitVal g, .int .u8 1, .slice (some ⟨q, 0, none⟩) 1 1] w fun e w' => e = .returned (.tuple #[.agg #[.int .u64 (lo (hz (mul 1) (add 1) a (bitCoefs 1))), .int .u64 (hi (hz (mul 1) (add 1) a (bitCoefs 1)))], .int .i64 0]) ∧ Below w.heap.size w w' := by
  have hcs := Lib.hid (fun w' h => gcheckin_one g w' h)
  have hat := Lib.hid (fun w' h => at_any 1 a (mul 1) (add 1) (bitCoefs 1) (some ⟨g, 0, none⟩) 3 (by unfold ElemsOK; decide) (by decide) a0 a1 opBy_mul1 opBy_add1 w' h)
  rw [show (bitCoefs 1).length = 3 from rfl] at hat
  unfold bitVal at *
  generalize hz (mul 1) (add 1) a (bitCoefs 1) = z at *
  go_enter Tryz.func33, Tryz.ntmps33
  go_wp2_with fail
  refine name_calls (fun w1 => Below w.heap.size w w1 ∧ w1.heap[w.heap.size]? = some (.cells #[.int .u8 2, .slice (some ⟨g, 0, none⟩) 3 3, .int .i64 0] 43 (0, 0)) ∧ w1.heap[w.heap.size + 1]? = some (.cells #[.int .u64 0, .int .u64 0] 28 (0, 0)) ∧ w1.heap[q]? = some (.cells #[.int .u64 (lo a), .int .u64 (hi a)] 28 (0, 0))) ⟨((Below.refl _ _).alloc (Nat.le_refl _) _).alloc (by simp) _, alloc_keeps (alloc_at rfl), alloc_at (by simp), alloc_keeps (alloc_keeps hq)⟩ ?_
  rintro w1 ⟨hb, k0, kr, kq⟩
  refine call_then (hcs.out _ (hA.up hb)) ?_
  intro w2 hb2
  replace hb := below_next hb hb.size hb2
  replace k0 := keeps hb2 k0
  replace kr := keeps hb2 kr
  replace kq := keeps hb2 kq
  clear hb2
  obtain ⟨c0, c1, c2, _⟩ := blk3 k0
  obtain ⟨d0, d1, d2, d3⟩ := blk2 kq
  go_wp2
  clear c0 c1 c2 d0 d1 d2 d3
  refine wp_region_flow1 7 (by kernel_rfl) (by kernel_rfl) (by kernel_rfl) ?_
  apply Exists.intro
  refine ⟨fun ι _ φ hφ => ?_, fun wt hwt => ?_⟩
  · have a0 : ∀ i, (φ i).cell? ⟨w.heap.size, 1, none⟩ = some (.slice (some ⟨g, 0, none⟩) 3 3) := fun i => (blk3 (keeps (hφ.old i) k0)).2.1
    obtain ⟨a2, a3⟩ := hφ.two kq
    have hat' := fun i => hat.out (φ i) (hA.up (below_next hb hb.size (hφ.old i)))
    simp only [List.take_succ_cons, List.take_zero]
    repeat (go_big_quiet_step ((go_at_call 71; exact flow_call hφ (hat' _))))
    exact wpQuiet_nil rfl
  replace hb := below_next hb hb.size hwt
  replace kr := keeps hwt kr
  clear hwt
  simp only [List.drop_succ_cons, List.drop_zero]
  obtain ⟨s0, s1, s2, s3⟩ := blk2 kr
  go_wp2
  obtain ⟨p2, p3, _, _⟩ := blk2 (store2 (u := .int .u64 (lo z)) (v := .int .u64 (hi z)) kr)
  exact bodyPost_ret (v := .tuple #[.agg #[.int .u64 (lo z), .int .u64 (hi z)], .int .i64 0]) (by simp [results, Tryz.results33, go_sem, p2, p3]) rfl ⟨rfl, below_store2 hb (Nat.le_succ _)⟩
set_option maxHeartbeats 2000000 in
theorem gcheck_two (g : Nat) (w : World) (hA : ElemsAt w (some ⟨g, 0, none⟩) (bitCoefs 2)) : Calls Tryz.prog 128 #[bitVal g, .int .u8 2] w fun e w' => e = .returned (.int .i64 0) ∧ Below w.heap.size w w' := by
  have hcs := Lib.hid (fun w' h => gcoefs_two g w' h)
  unfold bitVal at *
  go_enter Tryz.func128, Tryz.ntmps128
  go_wp2_with fail
  refine name_calls (fun w1 => Below w.heap.size w w1 ∧ w1.heap[w.heap.size]? = some (.cells #[.int .u8 2, .slice (some ⟨g, 0, none⟩) 3 3, .int .i64 0] 43 (0, 0))) ⟨(Below.refl _ _).alloc (Nat.le_refl _) _, alloc_at rfl⟩ ?_
  rintro w1 ⟨hb, k0⟩
  refine call_then (fvalid_two _) ?_
  intro w2 hb2
  replace hb := below_next hb hb.size hb2
  replace k0 := keeps hb2 k0
  clear hb2
  obtain ⟨c0, c1, c2, _⟩ := blk3 k0
  go_wp2_with fail
  refine call_then (hcs.out _ (hA.up hb)) ?_
  intro w2 hb2
  replace hb := below_next hb hb.size hb2
  replace k0 := keeps hb2 k0
  clear hb2
  go_wp2
  go_ret
  exact ⟨rfl, hb⟩
set_option maxHeartbeats 2000000 in
theorem gcheckin_two (g : Nat) (w : World) (hA : ElemsAt w (some ⟨g, 0, none⟩) (bitCoefs 2)) : Calls Tryz.prog 88 #[bitVal g, .int .u8 2, .int .i64 1] w fun e w' => e = .returned (.int .i64 0) ∧ Below w.heap.size w w' := by
  have hcs := Lib.hid (fun w' h => gcheck_two g w' h)
  have har := Lib.hid (fun w' => garity g w')
  unfold bitVal at *
  go_enter Tryz.func88, Tryz.ntmps88
  go_wp2_with fail
  refine name_calls (fun w1 => Below w.heap.size w w1 ∧ w1.heap[w.heap.size]? = some (.cells #[.int .u8 2, .slice (some ⟨g, 0, none⟩) 3 3, .int .i64 0] 43 (0, 0))) ⟨(Below.refl _ _).alloc (Nat.le_refl _) _, alloc_at rfl⟩ ?_
  rintro w1 ⟨hb, k0⟩
  refine call_then (hcs.out _ (hA.up hb)) ?_
  intro w2 hb2
  replace hb := below_next hb hb.size hb2
  replace k0 := keeps hb2 k0
  clear hb2
  obtain ⟨c0, c1, c2, _⟩ := blk3 k0
  go_wp2_with fail
  clear c0 c1 c2
  refine call_then (har.out _) ?_
  intro w2 hb2
  replace hb := below_next hb hb.size hb2
  replace k0 := keeps hb2 k0
  clear hb2
  go_wp2
  go_ret
  exact ⟨rfl, hb⟩
set_option maxHeartbeats 2000000 in
theorem gof_two (g q : Nat) (a : Int) (a0 : 0 ≤ a) (a1 : a < 340282366920938463463374607431768211456) (w : World) (hA : ElemsAt w (some ⟨g, 0, none⟩) (bitCoefs 2)) (hq : w.heap[q]? = some (.cells #[.int .u64 (lo a), .int .u64 (hi a)] 28 (0, 0))) :
    Calls Tryz.prog 33 #[bitVal g, .int .u8 2, .slice (some ⟨q, 0, none⟩) 1 1] w fun e w' => e = .returned (.tuple #[.agg #[.int .u64 (lo (hz (mul 2) (add 2) a (bitCoefs 2))), .int .u64 (hi (hz (mul 2) (add 2) a (bitCoefs 2)))], .int .i64 0]) ∧ Below w.heap.size w w' := by
  have hcs := Lib.hid (fun w' h => gcheckin_two g w' h)
  have hat := Lib.hid (fun w' h => at_any 2 a (mul 2) (add 2) (bitCoefs 2) (some ⟨g, 0, none⟩) 3 (by unfold ElemsOK; decide) (by decide) a0 a1 opBy_mul2 opBy_add2 w' h)
  rw [show (bitCoefs 2).length = 3 from rfl] at hat
  unfold bitVal at *
  generalize hz (mul 2) (add 2) a (bitCoefs 2) = z at *
  go_enter Tryz.func33, Tryz.ntmps33
  go_wp2_with fail
  refine name_calls (fun w1 => Below w.heap.size w w1 ∧ w1.heap[w.heap.size]? = some (.cells #[.int .u8 2, .slice (some ⟨g, 0, none⟩) 3 3, .int .i64 0] 43 (0, 0)) ∧ w1.heap[w.heap.size + 1]? = some (.cells #[.int .u64 0, .int .u64 0] 28 (0, 0)) ∧ w1.heap[q]? = some (.cells #[.int .u64 (lo a), .int .u64 (hi a)] 28 (0, 0))) ⟨((Below.refl _ _).alloc (Nat.le_refl _) _).alloc (by simp) _, alloc_keeps (alloc_at rfl), alloc_at (by simp), alloc_keeps (alloc_keeps hq)⟩ ?_
  rintro w1 ⟨hb, k0, kr, kq⟩
  refine call_then (hcs.out _ (hA.up hb)) ?_
  intro w2 hb2
  replace hb := below_next hb hb.size hb2
  replace k0 := keeps hb2 k0
  replace kr := keeps hb2 kr
  replace kq := keeps hb2 kq
  clear hb2
  obtain ⟨c0, c1, c2, _⟩ := blk3 k0
  obtain ⟨d0, d1, d2, d3⟩ := blk2 kq
  go_wp2
  clear c0 c1 c2 d0 d1 d2 d3
  refine wp_region_flow1 7 (by kernel_rfl) (by kernel_rfl) (by kernel_rfl) ?_
  apply Exists.intro
  refine ⟨fun ι _ φ hφ => ?_, fun wt hwt => ?_⟩
  · have a0 : ∀ i, (φ i).cell? ⟨w.heap.size, 1, none⟩ = some (.slice (some ⟨g, 0, none⟩) 3 3) := fun i => (blk3 (keeps (hφ.old i) k0)).2.1
    obtain ⟨a2, a3⟩ := hφ.two kq
    have hat' := fun i => hat.out (φ i) (hA.up (below_next hb hb.size (hφ.old i)))
    simp only [List.take_succ_cons, List.take_zero]
    repeat (go_big_quiet_step ((go_at_call 71; exact flow_call hφ (hat' _))))
    exact wpQuiet_nil rfl
  replace hb := below_next hb hb.size hwt
  replace kr := keeps hwt kr
  clear hwt
  simp only [List.drop_succ_cons, List.drop_zero]
  obtain ⟨s0, s1, s2, s3⟩ := blk2 kr
  go_wp2
  obtain ⟨p2, p3, _, _⟩ := blk2 (store2 (u := .int .u64 (lo z)) (v := .int .u64 (hi z)) kr)
  exact bodyPost_ret (v := .tuple #[.agg #[.int .u64 (lo z), .int .u64 (hi z)], .int .i64 0]) (by simp [results, Tryz.results33, go_sem, p2, p3]) rfl ⟨rfl, below_store2 hb (Nat.le_succ _)⟩
end Go.Proofs.YtebgfelbffgnbaaGreatDoor
