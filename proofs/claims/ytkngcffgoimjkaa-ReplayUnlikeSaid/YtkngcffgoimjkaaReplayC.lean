/-
  Law 18's own first step.
-/
import Derived.Test.YtkngcffgoimjkaaReplayB
namespace Go.Proofs.Ytkngcffgoimjkaa
open Go.RowKit Flow
set_option linter.unusedVariables false
set_option maxHeartbeats 2000000 in
theorem replay_awake (w : World) : Calls Try.prog 8 #[] w fun e w' => e = .returned (.bool true) ∧ Below w.heap.size w w' := by
  go_enter Try.func8, Try.ntmps8
  go_wp2_with fail
  refine (new_any 9 (by omega) (by omega) _).mono ?_
  rintro e w1 ⟨p, rfl, hb, hp0, hp⟩
  go_upto_region 3 with (fail)
  refine name_wp (fun w2 => Below w.heap.size w w2 ∧ w2.heap[p]? = some (.cells #[.slice none 0 0, .int .i64 9] 60 (0, 0)) ∧ At0 w2 w1.heap.size (scells [1, 0, 0, 0, 0, 0, 0, 0, 0, 0, 0, 0, 0, 0, 0, 0] 3 0) ∧ p ≠ w1.heap.size) ⟨hb.alloc hb.size _, alloc_keeps hp, At0.of_block (alloc_at rfl), Nat.ne_of_lt (lt_of_get hp)⟩ ?_
  clear hb hp
  generalize w1.heap.size = s at *
  rintro w2 ⟨hb, hp, ks, hps⟩
  have hx : ([1, 0, 0, 0, 0, 0, 0, 0, 0, 0, 0, 0, 0, 0, 0, 0] : List Int).length = 16 := rfl
  have bx : ByteList [1, 0, 0, 0, 0, 0, 0, 0, 0, 0, 0, 0, 0, 0, 0, 0] := by unfold ByteList; decide
  generalize ([1, 0, 0, 0, 0, 0, 0, 0, 0, 0, 0, 0, 0, 0, 0, 0] : List Int) = xs at *
  have hadd := Lib.hid (fun w h => add_first p 9 xs 3 0 hx (by omega) (by omega) (by omega) (by omega) w h)
  have hag := Lib.hid (fun g cap w h hg => add_again p g cap 9 xs 3 0 3 0 hx bx (by omega) (by omega) w h hg)
  clear bx
  unfold seenv at hadd hag
  go_wp2_with (first | (refine wpList_load_mid rfl _ _ rfl _ 0 rfl _ _ ks Try.underlying32 rfl (by rw [scells_length hx]; kernel_rfl) ?_))
  refine (hadd.out _ hp).mono ?_
  rintro e w3 ⟨g, cap, rfl, hbut, hg0, hp3, hat⟩
  replace hb := hbut.below hb (by omega) hb.size
  replace ks := ks.but hbut (Ne.symm hps)
  clear hbut hp hadd
  go_wp2_with (first | (refine list_load_mid _ _ _ 0 _ _ rfl rfl rfl ks Try.underlying32 rfl (by rw [scells_length hx]; kernel_rfl) ?_))
  refine call_then (hag.out _ _ _ hp3 hat) ?_
  intro w4 hb4
  replace hb := below_next hb hb.size hb4
  replace hp3 := keeps hb4 hp3
  clear hb4 hat ks
  go_wp2_with fail
  refine call_then (len_any p _ 1 cap 9 _ hp3) ?_
  intro w5 hb5
  replace hb := below_next hb hb.size hb5
  clear hb5
  go_wp2
  go_ret
  exact ⟨rfl, hb⟩
end Go.Proofs.Ytkngcffgoimjkaa
