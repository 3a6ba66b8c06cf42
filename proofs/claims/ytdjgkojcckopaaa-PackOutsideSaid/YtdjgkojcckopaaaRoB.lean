/-
  A Reader outside of a reading: seeds, ids.
-/
import Derived.Test.YtdjgkojcckopaaaRoA
import Derived.Test.YtdjgkojcckopaaaMid
import Derived.Laws.CopyRow
import Derived.Deep.RegionWith
namespace Go.Proofs.Ytdjgkojcckopaaa
open Go.RowKit Flow
set_option linter.unusedVariables false
set_option linter.unusedSimpArgs false

def zero16 : List Value := [.int .u8 0, .int .u8 0, .int .u8 0, .int .u8 0, .int .u8 0, .int .u8 0, .int .u8 0, .int .u8 0, .int .u8 0, .int .u8 0, .int .u8 0, .int .u8 0, .int .u8 0, .int .u8 0, .int .u8 0, .int .u8 0]
theorem one_zero16 : ∀ u ∈ zero16, u.oneCell' = true := by decide
theorem results_cell1 {P : Program} {fn : Func} {tmps : Array Value} {w : World} {a : Nat} {t : TypeId} {b : Nat} {v : Value} (hr : fn.results = #[.cell a t]) (ha : tmps.getD a undef = .pointer (some ⟨b, 0, none⟩))
    (h : (loadVar t ⟨b, 0, none⟩).run P w = .ok v w) : (results fn tmps).run P w = .ok v w := by
  rw [Array.getD_eq_getD_getElem?] at ha
  simp [results, hr, asAddr, ha, h]
theorem copy_none (a : Addr) (w : World) : (Builtin.copy_ #[23, 23] 3 #[.slice (some a) 16 16, .slice none 0 0]).run Try.prog w = .ok (.int .i64 0) w :=
  run_copy_nil Try.prog w 23 23 3 5 a 16 16 Try.underlying23 (by kernel_rfl)
set_option maxHeartbeats 1000000 in
theorem seed_shut (p : Value) (w : World) (h : Shut w p) : Calls Try.prog 28 #[p] w fun e w' => e = .returned (.agg zero16.toArray) ∧ Below w.heap.size w w' := by
  have hcp := copy_none ⟨w.heap.size + 1, 0, none⟩
  have hone := Lib.hid one_zero16
  go_enter Try.func28, Try.ntmps28
  go_upto_region 2 with (fail)
  refine name_wp (fun w1 => Below w.heap.size w w1 ∧ Shut w1 p ∧ w1.heap[w.heap.size]? = some (.cells zero16.toArray 52 (0, 0)) ∧ w1.heap[w.heap.size + 1]? = some (.cells zero16.toArray 52 (0, 0)))
    ⟨((Below.refl _ _).alloc (Nat.le_refl _) _).alloc (by simp) _, h.up (((Below.refl _ _).alloc (Nat.le_refl _) _).alloc (by simp) _), alloc_keeps (alloc_at rfl), alloc_at (by simp)⟩ ?_
  rintro w1 ⟨hb, hs, k0, k1⟩
  clear h
  have hs2 : Shut w1.drew p := hs.up (Below.refl _ _).drew
  have hR := Lib.hid (raw_shut p 16 w1.drew hs2)
  go_region_with ((go_at_call 16; refine hR.out.mono ?_; rintro e w' ⟨rfl, rfl⟩))
  have hb2 : Below w.heap.size w w1.drew := hb.drew
  have k02 : w1.drew.heap[w.heap.size]? = some (.cells zero16.toArray 52 (0, 0)) := k0
  have z0 : At0 w1.drew (w.heap.size + 1) zero16 := At0.of_block (w := w1.drew) k1
  clear hR hs2 hs hb k0 k1 hcp
  generalize w1.drew = w2 at *
  go_wp2_with (first
    | (refine list_load_mid _ _ _ 0 _ _ rfl rfl rfl z0 Try.underlying52 rfl (by kernel_rfl) ?_)
    | (refine list_store_whole _ _ _ _ zero16 zero16 52 rfl rfl rfl rfl k02 rfl (by kernel_rfl) hone.out ?_; intro w3 hbut kz))
  have hb3 := hbut.below hb2 (Nat.le_refl _) hb2.size
  have hlv := loadVar_whole (P := Try.prog) _ (At0.of_block kz) Try.underlying52 rfl (by kernel_rfl)
  exact bodyPost_ret (v := .agg zero16.toArray) (results_cell1 Try.results28 rfl hlv) rfl ⟨rfl, hb3⟩
set_option maxHeartbeats 1000000 in
theorem id_shut (p : Value) (w : World) (h : Shut w p) : Calls Try.prog 29 #[p] w fun e w' => e = .returned (.agg zero16.toArray) ∧ Below w.heap.size w w' := by
  have hcp := copy_none ⟨w.heap.size + 1, 0, none⟩
  have hone := Lib.hid one_zero16
  go_enter Try.func29, Try.ntmps29
  go_upto_region 2 with (fail)
  refine name_wp (fun w1 => Below w.heap.size w w1 ∧ Shut w1 p ∧ w1.heap[w.heap.size]? = some (.cells zero16.toArray 54 (0, 0)) ∧ w1.heap[w.heap.size + 1]? = some (.cells zero16.toArray 54 (0, 0)))
    ⟨((Below.refl _ _).alloc (Nat.le_refl _) _).alloc (by simp) _, h.up (((Below.refl _ _).alloc (Nat.le_refl _) _).alloc (by simp) _), alloc_keeps (alloc_at rfl), alloc_at (by simp)⟩ ?_
  rintro w1 ⟨hb, hs, k0, k1⟩
  clear h
  have hs2 : Shut w1.drew p := hs.up (Below.refl _ _).drew
  have hR := Lib.hid (raw_shut p 16 w1.drew hs2)
  go_region_with ((go_at_call 16; refine hR.out.mono ?_; rintro e w' ⟨rfl, rfl⟩))
  have hb2 : Below w.heap.size w w1.drew := hb.drew
  have k02 : w1.drew.heap[w.heap.size]? = some (.cells zero16.toArray 54 (0, 0)) := k0
  have z0 : At0 w1.drew (w.heap.size + 1) zero16 := At0.of_block (w := w1.drew) k1
  clear hR hs2 hs hb k0 k1 hcp
  generalize w1.drew = w2 at *
  go_wp2_with (first
    | (refine list_load_mid _ _ _ 0 _ _ rfl rfl rfl z0 Try.underlying54 rfl (by kernel_rfl) ?_)
    | (refine list_store_whole _ _ _ _ zero16 zero16 54 rfl rfl rfl rfl k02 rfl (by kernel_rfl) hone.out ?_; intro w3 hbut kz))
  have hb3 := hbut.below hb2 (Nat.le_refl _) hb2.size
  have hlv := loadVar_whole (P := Try.prog) _ (At0.of_block kz) Try.underlying54 rfl (by kernel_rfl)
  exact bodyPost_ret (v := .agg zero16.toArray) (results_cell1 Try.results29 rfl hlv) rfl ⟨rfl, hb3⟩
end Go.Proofs.Ytdjgkojcckopaaa
