/-
  Messages: what may not be a message isn't put.
-/
import Derived.Test.YteidilbkegjgfaaPkF
namespace Go.Proofs.Yteidilbkegjgfaa
open Go.RowKit Flow
set_option linter.unusedVariables false
set_option linter.unusedSimpArgs false

theorem mcells_size (k : Int) (s : Value) : (mcells k s).toList.length = 22 := rfl
theorem enc_bad (kd : Int) (s : Value) (e0 : Int) (hne : e0 ≠ 0) (w : World) (hC : ∀ w', Below w.heap.size w w' → Calls Try.prog 11 #[.agg (mcells kd s)] w' fun e w2 => e = .returned (.int .i64 e0) ∧ Below w'.heap.size w' w2) :
    Calls Try.prog 10 #[.agg (mcells kd s)] w fun e w' => e = .returned (.tuple #[.slice none 0 0, .int .i64 e0]) ∧ Below w.heap.size w w' := by
  have hb := (Below.refl w.heap.size w).alloc (Nat.le_refl _) (.cells (mcells kd s) 27 (0, 0))
  have hk : (w.alloc (.cells (mcells kd s) 27 (0, 0))).heap[w.heap.size]? = some (.cells (mcells kd s).toList.toArray 27 (0, 0)) := alloc_at rfl
  have hk2 := At0.of_block hk
  have hCC := hC _ hb
  clear hk
  replace hCC := Lib.hid hCC
  replace hb := Lib.hid hb
  go_enter Try.func10, Try.ntmps10
  go_wp2_with (first | (refine list_load_mid _ _ _ 0 _ _ rfl rfl rfl hk2 Try.underlying27 rfl (by kernel_rfl) ?_))
  refine call_then hCC.out ?_
  intro w2 hb2
  go_wp2
  exact bodyPost_ret (v := .tuple #[.slice none 0 0, .int .i64 e0]) (by simp [results, Try.results10, go_sem]) rfl ⟨rfl, below_next hb.out hb.out.size hb2⟩
end Go.Proofs.Yteidilbkegjgfaa
