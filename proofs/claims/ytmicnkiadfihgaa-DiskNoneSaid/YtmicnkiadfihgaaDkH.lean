/-
  DiskNone: what a nil disk answers; proved.
-/
import Derived.Test.YtmicnkiadfihgaaDkG
import Derived.Test.YtmicnkiadfihgaaFrame
import Derived.Test.YtmicnkiadfihgaaPost
import Derived.WalkKit
import Derived.ProofKit
import Derived.OpenShut
namespace Go.Proofs.Ytmicnkiadfihgaa
open Go.RowKit Go.WideShapes Go.ChangeShapes Flow Go.Maps
set_option linter.unusedVariables false
set_option linter.unusedSimpArgs false

theorem crash_nil (k : Int) (w : World) : Calls Try.prog 8 #[.pointer none, .int .i64 k] w fun e w' => e = .returned (.tuple #[]) ∧ Below w.heap.size w w' := by
  go_enter Try.func8, Try.ntmps8
  go_wp2
  refine bodyPost_ret (results_none rfl _ _ _) rfl ?_
  exact ⟨rfl, Below.refl _ _⟩
theorem find_nil (s : ByteArray) (w : World) : Calls Try.prog 22 #[.pointer none, .string s] w fun e w' => e = .returned (.tuple #[.pointer none, .int .i64 1]) ∧ Below w.heap.size w w' := by
  go_enter Try.func22, Try.ntmps22
  go_wp2
  refine bodyPost_ret (v := .tuple #[.pointer none, .int .i64 1]) (by simp [results, Try.results22, go_sem]) rfl ⟨rfl, Below.refl _ _⟩
theorem read_nil (s : ByteArray) (w : World) : Calls Try.prog 9 #[.pointer none, .string s] w fun e w' => e = .returned (.tuple #[.slice none 0 0, .int .i64 1]) ∧ Below w.heap.size w w' := by
  have hf := Lib.hid (find_nil s w)
  go_enter Try.func9, Try.ntmps9
  go_wp2_with (fail)
  refine call_then hf.out ?_
  intro w1 hv
  go_wp2_with (fail)
  go_ret2
  exact ⟨rfl, hv⟩
theorem append_nil (s : ByteArray) (A : Option Addr) (n c : Nat) (w : World) : Calls Try.prog 10 #[.pointer none, .string s, .slice A n c] w fun e w' => e = .returned (.int .i64 1) ∧ Below w.heap.size w w' := by
  go_enter Try.func10, Try.ntmps10
  go_wp2
  go_ret
  exact ⟨rfl, Below.refl _ _⟩
theorem sync_nil (s : ByteArray) (w : World) : Calls Try.prog 11 #[.pointer none, .string s] w fun e w' => e = .returned (.int .i64 1) ∧ Below w.heap.size w w' := by
  have hf := Lib.hid (find_nil s w)
  go_enter Try.func11, Try.ntmps11
  go_wp2_with (fail)
  refine call_then hf.out ?_
  intro w1 hv
  go_wp2_with (fail)
  go_ret
  exact ⟨rfl, hv⟩
theorem cut_nil (s : ByteArray) (k : Int) (w : World) : Calls Try.prog 12 #[.pointer none, .string s, .int .i64 k] w fun e w' => e = .returned (.int .i64 1) ∧ Below w.heap.size w w' := by
  have hf := Lib.hid (find_nil s w)
  go_enter Try.func12, Try.ntmps12
  go_wp2_with (fail)
  refine call_then hf.out ?_
  intro w1 hv
  go_wp2_with (fail)
  go_ret
  exact ⟨rfl, hv⟩
theorem turn_nil (s : ByteArray) (k : Int) (w : World) : Calls Try.prog 13 #[.pointer none, .string s, .int .i64 k] w fun e w' => e = .returned (.int .i64 1) ∧ Below w.heap.size w w' := by
  have hf := Lib.hid (find_nil s w)
  go_enter Try.func13, Try.ntmps13
  go_wp2_with (fail)
  refine call_then hf.out ?_
  intro w1 hv
  go_wp2_with (fail)
  go_ret
  exact ⟨rfl, hv⟩
theorem loose_nil (s : ByteArray) (w : World) : Calls Try.prog 14 #[.pointer none, .string s] w fun e w' => e = .returned (.int .i64 0) ∧ Below w.heap.size w w' := by
  have hf := Lib.hid (find_nil s w)
  go_enter Try.func14, Try.ntmps14
  go_wp2_with (fail)
  refine call_then hf.out ?_
  intro w1 hv
  go_wp2_with (fail)
  go_ret
  exact ⟨rfl, hv⟩
theorem used_nil (w : World) : Calls Try.prog 15 #[.pointer none] w fun e w' => e = .returned (.int .i64 0) ∧ Below w.heap.size w w' := by
  go_enter Try.func15, Try.ntmps15
  go_wp2
  go_ret
  exact ⟨rfl, Below.refl _ _⟩
theorem names_nil (w : World) : Calls Try.prog 16 #[.pointer none] w fun e w' => e = .returned (.slice none 0 0) ∧ Below w.heap.size w w' := by
  go_enter Try.func16, Try.ntmps16
  go_wp2
  go_ret
  exact ⟨rfl, Below.refl _ _⟩
theorem copy_nil (w : World) : Calls Try.prog 17 #[.pointer none] w fun e w' => e = .returned (.pointer none) ∧ Below w.heap.size w w' := by
  go_enter Try.func17, Try.ntmps17
  go_wp2
  go_ret
  exact ⟨rfl, Below.refl _ _⟩
set_option maxRecDepth 20000 in
set_option maxHeartbeats 4000000 in
theorem diskNone_walk (s : ByteArray) (A : Option Addr) (n c : Nat) (hn : n ≤ maxLen) (k : Int) (w : World) :
    Calls Try.prog 3 #[.string s, .slice A n c, .int .i64 k] w fun e w' => e = .returned (.bool true) ∧ Below w.heap.size w w' := by
  have hAw := Lib.hid (awake_ok w)
  have hCr := Lib.hid (crash_nil k)
  have hRd := Lib.hid (read_nil s)
  have hAp := Lib.hid (append_nil s A n c)
  have hSy := Lib.hid (sync_nil s)
  have hCu := Lib.hid (cut_nil s k)
  have hTu := Lib.hid (turn_nil s k)
  have hLo := Lib.hid (loose_nil s)
  have hUs := Lib.hid used_nil
  have hNa := Lib.hid names_nil
  have hCo := Lib.hid copy_nil
  go_enter Try.func3, Try.ntmps3
  go_wp2_with (fail)
  refine call_then hAw.out ?_
  intro w1 hv
  have hb : Hid (Below w.heap.size w w1) := Lib.hid hv
  have hs : w.heap.size ≤ w1.heap.size := hv.size
  clear hv hAw
  go_wp2_with (fail)
  · go_ret
    exact ⟨rfl, hb.out⟩
  · refine call_then (hCr.out _) ?_
    intro w9 hv
    have hb9 := Lib.hid (below_next hb.out hs hv)
    have hs9 := Nat.le_trans hs hv.size
    clear hb hs hv hCr
    have hb := hb9
    have hs := hs9
    clear hb9 hs9
    go_wp2_with (fail)
    refine call_then (hRd.out _) ?_
    intro w9 hv
    have hb9 := Lib.hid (below_next hb.out hs hv)
    have hs9 := Nat.le_trans hs hv.size
    clear hb hs hv hRd
    have hb := hb9
    have hs := hs9
    clear hb9 hs9
    go_wp2_with (fail)
    refine call_then (hAp.out _) ?_
    intro w9 hv
    have hb9 := Lib.hid (below_next hb.out hs hv)
    have hs9 := Nat.le_trans hs hv.size
    clear hb hs hv hAp
    have hb := hb9
    have hs := hs9
    clear hb9 hs9
    go_wp2_with (fail)
    refine call_then (hSy.out _) ?_
    intro w9 hv
    have hb9 := Lib.hid (below_next hb.out hs hv)
    have hs9 := Nat.le_trans hs hv.size
    clear hb hs hv hSy
    have hb := hb9
    have hs := hs9
    clear hb9 hs9
    go_wp2_with (fail)
    refine call_then (hCu.out _) ?_
    intro w9 hv
    have hb9 := Lib.hid (below_next hb.out hs hv)
    have hs9 := Nat.le_trans hs hv.size
    clear hb hs hv hCu
    have hb := hb9
    have hs := hs9
    clear hb9 hs9
    go_wp2_with (fail)
    refine call_then (hTu.out _) ?_
    intro w9 hv
    have hb9 := Lib.hid (below_next hb.out hs hv)
    have hs9 := Nat.le_trans hs hv.size
    clear hb hs hv hTu
    have hb := hb9
    have hs := hs9
    clear hb9 hs9
    go_wp2_with (fail)
    refine call_then (hLo.out _) ?_
    intro w9 hv
    have hb9 := Lib.hid (below_next hb.out hs hv)
    have hs9 := Nat.le_trans hs hv.size
    clear hb hs hv hLo
    have hb := hb9
    have hs := hs9
    clear hb9 hs9
    go_wp2_with (fail)
    refine call_then (hUs.out _) ?_
    intro w9 hv
    have hb9 := Lib.hid (below_next hb.out hs hv)
    have hs9 := Nat.le_trans hs hv.size
    clear hb hs hv hUs
    have hb := hb9
    have hs := hs9
    clear hb9 hs9
    go_wp2_with (fail)
    refine call_then (hNa.out _) ?_
    intro w9 hv
    have hb9 := Lib.hid (below_next hb.out hs hv)
    have hs9 := Nat.le_trans hs hv.size
    clear hb hs hv hNa
    have hb := hb9
    have hs := hs9
    clear hb9 hs9
    go_wp2_with (fail)
    refine call_then (hCo.out _) ?_
    intro w9 hv
    have hb9 := Lib.hid (below_next hb.out hs hv)
    have hs9 := Nat.le_trans hs hv.size
    clear hb hs hv hCo
    have hb := hb9
    have hs := hs9
    clear hb9 hs9
    go_wp2_with (fail)
    go_ret
    exact ⟨rfl, hb.out⟩
end Go.Proofs.Ytmicnkiadfihgaa
