/-
  The reference's comparison of two lists that are the same.
-/
import Derived.Test.YtpojhomccmfffaaDoorBI
namespace Go.Proofs.YtpojhomccmfffaaDoor
open Go.RowKit F Flow
set_option linter.unusedVariables false
attribute [local go_sem] eql_elem

set_option maxHeartbeats 4000000 in
theorem rsame_eq (xs : List Int) (A B : Option Addr) (c d : Nat) (hm : xs.length ≤ 5000) (w : World) (hA : ElemsAt w A xs) (hB : ElemsAt w B xs) :
    Calls Tryd.prog 50 #[.slice A xs.length c, .slice B xs.length d] w fun e w' => e = .returned (.bool true) ∧ Below w.heap.size w w' := by
  go_enter Tryd.func50, Tryd.ntmps50
  go_wp2
  go_loopw [5] (fun i wr => ∃ (k : Nat), k ≤ xs.length ∧ i = .int .i64 (k : Int) ∧ Below w.heap.size w wr) (fun i _ => (xs.length - (intOf i).toNat))
  case atStart => exact ⟨0, Nat.zero_le _, rfl, Below.refl _ _⟩
  case round =>
    obtain ⟨k, hk, rfl, hb⟩ := hrel
    by_cases hlt : k < xs.length
    · obtain ⟨b, o, rfl, c0, c1⟩ := (hA.up hb) k hlt
      obtain ⟨b2, o2, rfl, d0, d1⟩ := (hB.up hb) k hlt
      generalize xs.getD k 0 = x at *
      have i0' : (0 : Int) ≤ (k : Int) := by omega
      have i1' : (k : Int) < (xs.length : Int) := by omega
      go_wp2
      refine wp_region_flow0 (by kernel_rfl) (by kernel_rfl) ?_
      intro ι _ φ hφ
      have a0 : ∀ i, (φ i).cell? ⟨b, o + k * 2, none⟩ = some (.int .u64 (lo x)) := fun i => ((hφ.old i).cell (World.block_lt_of_cell? _ _ c0)).trans c0
      have a1 : ∀ i, (φ i).cell? ⟨b, o + k * 2 + 1, none⟩ = some (.int .u64 (hi x)) := fun i => ((hφ.old i).cell (World.block_lt_of_cell? _ _ c1)).trans c1
      have a2 : ∀ i, (φ i).cell? ⟨b2, o2 + k * 2, none⟩ = some (.int .u64 (lo x)) := fun i => ((hφ.old i).cell (World.block_lt_of_cell? _ _ d0)).trans d0
      have a3 : ∀ i, (φ i).cell? ⟨b2, o2 + k * 2 + 1, none⟩ = some (.int .u64 (hi x)) := fun i => ((hφ.old i).cell (World.block_lt_of_cell? _ _ d1)).trans d1
      clear c0 c1 d0 d1
      repeat (go_big_quiet_step (fail))
      refine wpQuiet_nil ?_
      intro w2 hw2
      replace hb := below_next hb hb.size hw2
      clear a0 a1 a2 a3 hφ
      go_wp2
      exact ⟨⟨k + 1, by omega, by go_num, hb⟩, by simp [intOf]; omega⟩
    · obtain rfl : k = xs.length := by omega
      go_wp2
      go_ret
      exact ⟨rfl, hb⟩
end Go.Proofs.YtpojhomccmfffaaDoor
