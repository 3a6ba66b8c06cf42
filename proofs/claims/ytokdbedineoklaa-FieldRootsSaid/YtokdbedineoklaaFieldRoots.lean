/-
  Any order: the fields' roots are gold's and wide's.
-/
import Derived.Test.YtokdbedineoklaaFieldC
namespace Go.Proofs.Ytokdbedineoklaa
open Go.ChangeShapes Go.WideShapes Go.ChangeAt Go.RowKit F Flow
set_option linter.unusedVariables false
attribute [local go_sem] eql_elem

theorem groot_det (log : Int) : ∃ v c, ∀ w, Calls Try.prog 44 #[.int .i64 log] w fun e w' => e = .returned (.tuple #[.int .u64 v, .int .i64 c]) ∧ Below w.heap.size w w' := by
  by_cases h : log < 0 ∨ 32 < log
  · exact ⟨_, _, groot_none log h⟩
  · exact ⟨_, _, groot_some log (by omega) (by omega)⟩
theorem wroot_det (log : Int) : ∃ x y c, ∀ w, Calls Try.prog 45 #[.int .i64 log] w fun e w' => e = .returned (.tuple #[.agg #[.int .u64 x, .int .u64 y], .int .i64 c]) ∧ Below w.heap.size w w' := by
  by_cases h : log < 0 ∨ 66 < log
  · exact ⟨_, _, _, wroot_none log h⟩
  · exact ⟨_, _, _, wroot_some log (by omega) (by omega)⟩

set_option maxHeartbeats 1000000 in
theorem fieldRoots_walk (log : Int) (wl : (Lit.int .i64 log).wf = true) (w : World) :
    Calls Try.prog 7 #[.int .i64 log] w fun e w' => e = .returned (.bool true) ∧ Below w.heap.size w w' := by
  obtain ⟨v, c, hg⟩ := groot_det log
  obtain ⟨x, y, d, hw⟩ := wroot_det log
  have hf := Lib.hid (froot_one log v c hg)
  have hf2 := Lib.hid (froot_two log x y d hw)
  replace hg := Lib.hid hg
  replace hw := Lib.hid hw
  go_enter Try.func7, Try.ntmps7
  go_wp2_with fail
  refine call_then (fawake_any _) ?_
  intro w1 hb
  go_wp2_with fail
  refine call_then (hf.out _) ?_
  intro w2 hw2
  replace hb := below_next hb hb.size hw2
  clear hw2
  go_wp2_with fail
  refine name_calls (fun w3 => Below w.heap.size w w3 ∧ w3.heap[w2.heap.size]? = some (.cells #[.int .u64 v, .int .u64 0] 24 (0, 0))) ⟨hb.alloc hb.size _, alloc_at rfl⟩ ?_
  clear hb
  generalize w2.heap.size = p at *
  rintro w3 ⟨hb, k0⟩
  refine call_then (hg.out _) ?_
  intro w4 hw4
  replace hb := below_next hb hb.size hw4
  replace k0 := keeps hw4 k0
  clear hw4
  go_wp2_with fail
  refine call_then (hf2.out _) ?_
  intro w5 hw5
  replace hb := below_next hb hb.size hw5
  replace k0 := keeps hw5 k0
  clear hw5
  go_wp2_with fail
  refine name_calls (fun w6 => Below w.heap.size w w6 ∧ w6.heap[p]? = some (.cells #[.int .u64 v, .int .u64 0] 24 (0, 0)) ∧ w6.heap[w5.heap.size]? = some (.cells #[.int .u64 x, .int .u64 y] 24 (0, 0))) ⟨hb.alloc hb.size _, alloc_keeps k0, alloc_at rfl⟩ ?_
  clear hb k0
  generalize w5.heap.size = q at *
  rintro w6 ⟨hb, k0, k1⟩
  refine call_then (hw.out _) ?_
  intro w7 hw7
  replace hb := below_next hb hb.size hw7
  replace k0 := keeps hw7 k0
  replace k1 := keeps hw7 k1
  clear hw7
  have m0 : p < w7.heap.size := lt_of_get k0
  have m1 : q < w7.heap.size := lt_of_get k1
  have n0 : p ≠ w7.heap.size := Nat.ne_of_lt (lt_of_get k0)
  have n1 : q ≠ w7.heap.size := Nat.ne_of_lt (lt_of_get k1)
  obtain ⟨c0, d0, f0, g0⟩ := blk2 k0
  obtain ⟨c1, d1, f1, g1⟩ := blk2 k1
  go_wp2_with fail
  refine name_calls (fun w8 => Below w.heap.size w w8) (hb.alloc hb.size _) ?_
  clear hb k0 k1 m0 m1 n0 n1 c0 d0 f0 g0 c1 d1 f1 g1
  intro w8 hb
  refine call_then (froots_one _) ?_
  intro w9 hw9
  replace hb := below_next hb hb.size hw9
  clear hw9
  go_wp2_with fail
  refine call_then (froots_two _) ?_
  intro w10 hw10
  replace hb := below_next hb hb.size hw10
  clear hw10
  go_wp2
  go_ret
  exact ⟨rfl, hb⟩

theorem own_fieldRoots : ownKnob Try.prog.godebug = none := by kernel_rfl
set_option maxRecDepth 100000 in
theorem lifted_fieldRoots (os : Os) (started : os.Started) (H : Type) (enc : TypeId × Value → H) :
    ReturnsInHanded {} Try.checked os 7 .any (Rows.fieldRootsSpec.pre6 enc Try.prog Try.f7 Rows.fieldRootsRow.domain false) (Rows.fieldRootsSpec.post enc Try.prog Try.f7 false true false false) := by
  refine returnsInHanded_of_change (C := Try.checked) own_fieldRoots started (by kernel_rfl) Try.func7
    (ChangeSpec.witness6 (enc := enc) (C := Try.checked) false ⟨#[], #[.int .i64 0], []⟩ 8 (by kernel_rfl) (by kernel_rfl) (by kernel_rfl) (by kernel_rfl)) ?_
  intro W base args ds gs before hval0 hW hcnd _
  have hval : ∀ (j : Nat) t v, Try.f7.params[j]? = some t → args[j]? = some v → Value.okWide Try.prog W .any base t v := hval0
  have hW' := hW
  obtain ⟨p, q, hA0, hV, rfl, hfz, hnd⟩ := hW
  have hA : DataW.TrodAll enc Try.prog W 0 (fun _ => true) true Try.f7.params.toList args.toList ds p := hA0
  rw [Try.params7] at hA hval
  obtain ⟨v0, vs0, d0, ds0, p0, q0, hargs, rfl, rfl, h0, r0⟩ := trodAll_cons hA
  obtain ⟨rfl, rfl, rfl⟩ := trodAll_nil r0
  obtain rfl : args = #[v0] := by cases args; simp_all
  obtain ⟨rfl, rfl⟩ := trodVars_none hV
  obtain ⟨a0, rfl, rfl, rfl, w0⟩ := open_int Try.underlying3 (hval 0 3 v0 rfl rfl) h0
  clear hA0 hval0
  simp only [List.append_nil] at hW'
  refine (fieldRoots_walk a0 w0 W).mono fun e W' ⟨he, hb⟩ => ?_
  subst he
  exact ⟨_, rfl, post_of_below (pa := []) (pv := []) hW' (fun _ _ _ => (trodAll_cons_mk (shut_bool Try.underlying4 _) trodAll_mk0)) (fun sp _ => (trodAll_cons_mk (shut_int Try.underlying3 w0) trodAll_mk0)) (fun _ _ => rfl) rfl
    hb (ok_one (by kernel_rfl) rfl (okWide_bool_mk Try.underlying4 _))⟩
theorem over_fieldRoots : Rows.fieldRootsRow.holds Try.pinned (OpenSpec.ofChange Rows.fieldRootsSpec) :=
  OpenClaim.holds_of_wide 7 Try.f7 rfl rfl rfl rfl rfl rfl rfl ⟨rfl, rfl, rfl, rfl, rfl⟩ rfl rfl rfl rfl rfl (by kernel_rfl) Try.func7 (by kernel_rfl)
    (of_decide_eq_true (by kernel_rfl)) (by unfold Func.isWrapper; first | (rw [if_pos (by decide +kernel)]; kernel_rfl) | (rw [if_neg (by decide +kernel)]; exact ⟨rfl, rfl⟩))
    (fun os started H enc _ => lifted_fieldRoots os started H enc)
theorem fieldRoots_proved : Rows.FieldRootsSaid := over_fieldRoots
#print axioms fieldRoots_proved
end Go.Proofs.Ytokdbedineoklaa
