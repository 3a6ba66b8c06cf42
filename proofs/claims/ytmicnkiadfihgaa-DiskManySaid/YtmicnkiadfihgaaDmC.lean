/-
  A disk of many files with nothing in them: an append of nothing makes one more, or tells that there are too many.
-/
import Derived.Test.YtmicnkiadfihgaaDmB
namespace Go.Proofs.Ytmicnkiadfihgaa
open Go.RowKit Flow Go.Maps
set_option linter.unusedVariables false
set_option linter.unusedSimpArgs false

set_option maxRecDepth 20000 in
set_option maxHeartbeats 4000000 in
theorem named_3 (s : ByteArray) (b : Nat → Int) (hz : s.size = 3) (hix : ∀ w (j : Nat), j < 3 → (Instr.index 9 (.string s) (.int .i64 (j : Int))).run Try.prog w = .ok (.int .u8 (b j)) w) (hb : ∀ j, j < 3 → 97 ≤ b j ∧ b j ≤ 122) (w : World) : Calls Try.prog 24 #[.string s] w fun e w' => e = .returned (.bool true) ∧ Below w.heap.size w w' := by
  have i0 : ∀ w, (Instr.index 9 (.string s) (.int .i64 0)).run Try.prog w = .ok (.int .u8 (b 0)) w := fun w => hix w 0 (by decide)
  have i1 : ∀ w, (Instr.index 9 (.string s) (.int .i64 1)).run Try.prog w = .ok (.int .u8 (b 1)) w := fun w => hix w 1 (by decide)
  have i2 : ∀ w, (Instr.index 9 (.string s) (.int .i64 2)).run Try.prog w = .ok (.int .u8 (b 2)) w := fun w => hix w 2 (by decide)
  obtain ⟨l0, u0⟩ := hb 0 (by decide)
  obtain ⟨l1, u1⟩ := hb 1 (by decide)
  obtain ⟨l2, u2⟩ := hb 2 (by decide)
  obtain ⟨x0, h0⟩ : ∃ x, b 0 = x := ⟨_, rfl⟩
  obtain ⟨x1, h1⟩ : ∃ x, b 1 = x := ⟨_, rfl⟩
  obtain ⟨x2, h2⟩ : ∃ x, b 2 = x := ⟨_, rfl⟩
  rw [h0] at i0 l0 u0
  rw [h1] at i1 l1 u1
  rw [h2] at i2 l2 u2
  clear hix hb h0 h1 h2
  go_enter Try.func24, Try.ntmps24
  go_wp2
  go_loopw [15] (fun i wr => ∃ j : Nat, i = .int .i64 (j : Int) ∧ j ≤ 3 ∧ Below w.heap.size w wr) (fun i _ => 3 - (intOf i).toNat)
  case atStart => exact ⟨0, rfl, by decide, Below.refl _ _⟩
  case round =>
    obtain ⟨j, rfl, hj, hb⟩ := hrel
    obtain rfl | rfl | rfl | rfl : j = 0 ∨ j = 1 ∨ j = 2 ∨ j = 3 := by omega
    · go_wp2
      exact ⟨⟨1, rfl, by decide, hb⟩, by decide⟩
    · go_wp2
      exact ⟨⟨2, rfl, by decide, hb⟩, by decide⟩
    · go_wp2
      exact ⟨⟨3, rfl, by decide, hb⟩, by decide⟩
    · go_wp2
      go_ret
      exact ⟨rfl, hb⟩
end Go.Proofs.Ytmicnkiadfihgaa
