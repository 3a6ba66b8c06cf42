/-
  Any two numbers: gold's sums, differences and products are the document's.
-/
import Derived.Test.YtjoghehefefmdaaGoldC
namespace Go.Proofs.Ytjoghehefefmdaa
open Go.ChangeShapes Go.WideShapes Go.ChangeAt Go.RowKit F Flow
set_option linter.unusedVariables false
attribute [local go_sem] eql_elem

set_option maxHeartbeats 2000000 in
theorem goldSums_walk (a b : Int) (wa : (Lit.int .u64 a).wf = true) (wb : (Lit.int .u64 b).wf = true) (w : World) :
    Calls Try.prog 3 #[.int .u64 a, .int .u64 b] w fun e w' => e = .returned (.bool true) ∧ Below w.heap.size w w' := by
  obtain ⟨a0, a1⟩ := wf_u64 wa
  obtain ⟨b0, b1⟩ := wf_u64 wb
  clear wa wb
  have hin := in_iff a0 a1
  go_enter Try.func3, Try.ntmps3
  go_wp2_with fail
  refine call_then (awake_any _) ?_
  intro w1 hb1
  go_wp2_with fail
  refine call_then (e_any a _) ?_
  intro w2 hb2
  replace hb1 := below_next hb1 hb1.size hb2
  clear hb2
  go_wp2_with fail
  refine call_then (ofE a a0 a1 _) ?_
  intro w2 hb2
  replace hb1 := below_next hb1 hb1.size hb2
  clear hb2
  go_wp2_with fail
  refine call_then (e_any b _) ?_
  intro w2 hb2
  replace hb1 := below_next hb1 hb1.size hb2
  clear hb2
  go_wp2_with fail
  refine call_then (ofE b b0 b1 _) ?_
  intro w2 hb2
  replace hb1 := below_next hb1 hb1.size hb2
  clear hb2
  go_wp2
  refine name_wp (fun w1 => Below w.heap.size w w1 ∧ w1.heap[w2.heap.size]? = some (.cells #[.int .u64 (redu 1 a), .int .u64 0] 25 (0, 0)) ∧ w1.heap[w2.heap.size + 1]? = some (.cells #[.int .u64 (redu 1 b), .int .u64 0] 25 (0, 0)))
    ⟨(hb1.alloc hb1.size _).alloc (by simp; have := hb1.size; omega) _, alloc_keeps (alloc_at rfl), alloc_at (by simp)⟩ ?_
  clear hb1
  generalize w2.heap.size = n
  rintro w3 ⟨b3, k0, k1⟩
  refine wp_region_flow0 (by kernel_rfl) (by kernel_rfl) ?_
  intro ι _ φ hφ
  obtain ⟨c0, d0⟩ := hφ.two k0
  obtain ⟨c1, d1⟩ := hφ.two k1
  repeat (go_big_quiet_step ((first
    | (go_at_call 10; exact flow_call hφ (e_any _ _))
    | (go_at_call 11; exact flow_same hφ (gof_any a a0 a1 _))
    | (go_at_call 12; exact flow_same hφ (gin_any a _))
    | (go_at_call 13; exact flow_same hφ (gadd_any a b a0 a1 b0 b1 _))
    | (go_at_call 15; exact flow_same hφ (gsub_any a b a0 a1 b0 b1 _))
    | (go_at_call 17; exact flow_same hφ (gneg_any a a0 a1 _))
    | (go_at_call 19; exact flow_call hφ (gmul_any a b a0 a1 b0 b1 _))
    | (go_at_call 14; exact flow_call hφ (addE a b _))
    | (go_at_call 16; exact flow_call hφ (subE a b _))
    | (go_at_call 20; exact flow_call hφ (mulE a b _))
    | (go_at_call 18; exact flow_call hφ (negE a _)))))
  refine wpQuiet_nil ?_
  intro w4 hw4
  clear c0 d0 c1 d1 hφ
  go_wp2
  go_ret
  exact ⟨rfl, below_next b3 b3.size hw4⟩

theorem own_goldSums : ownKnob Try.prog.godebug = none := by kernel_rfl
set_option maxRecDepth 100000 in
theorem lifted_goldSums (os : Os) (started : os.Started) (H : Type) (enc : TypeId × Value → H) :
    ReturnsInHanded {} Try.checked os 3 .any (Rows.goldSumsSpec.pre6 enc Try.prog Try.f3 Rows.goldSumsRow.domain false) (Rows.goldSumsSpec.post enc Try.prog Try.f3 false true false false) := by
  refine returnsInHanded_of_change (C := Try.checked) own_goldSums started (by kernel_rfl) Try.func3
    (ChangeSpec.witness6 (enc := enc) (C := Try.checked) false ⟨#[], #[.int .u64 0, .int .u64 0], []⟩ 8 (by kernel_rfl) (by kernel_rfl) (by kernel_rfl) (by kernel_rfl)) ?_
  intro W base args ds gs before hval0 hW hcnd _
  have hval : ∀ (j : Nat) t v, Try.f3.params[j]? = some t → args[j]? = some v → Value.okWide Try.prog W .any base t v := hval0
  have hW' := hW
  obtain ⟨p, q, hA0, hV, rfl, hfz, hnd⟩ := hW
  have hA : DataW.TrodAll enc Try.prog W 0 (fun _ => true) true Try.f3.params.toList args.toList ds p := hA0
  rw [Try.params3] at hA hval
  obtain ⟨v0, vs0, d0, ds0, p0, q0, hargs, rfl, rfl, h0, r0⟩ := trodAll_cons hA
  obtain ⟨v1, vs1, d1, ds1, p1, q1, rfl, rfl, rfl, h1, r1⟩ := trodAll_cons r0
  obtain ⟨rfl, rfl, rfl⟩ := trodAll_nil r1
  obtain rfl : args = #[v0, v1] := by cases args; simp_all
  obtain ⟨rfl, rfl⟩ := trodVars_none hV
  obtain ⟨a0, rfl, rfl, rfl, w0⟩ := open_int Try.underlying22 (hval 0 22 v0 rfl rfl) h0
  obtain ⟨a1, rfl, rfl, rfl, w1⟩ := open_int Try.underlying22 (hval 1 22 v1 rfl rfl) h1
  clear hA0 hval0
  simp only [List.append_nil] at hW'
  refine (goldSums_walk a0 a1 w0 w1 W).mono fun e W' ⟨he, hb⟩ => ?_
  subst he
  exact ⟨_, rfl, post_of_below (pa := []) (pv := []) hW' (fun _ _ _ => (trodAll_cons_mk (shut_bool Try.underlying4 _) trodAll_mk0)) (fun sp _ => (trodAll_cons_mk (shut_int Try.underlying22 w0) (trodAll_cons_mk (shut_int Try.underlying22 w1) trodAll_mk0))) (fun _ _ => rfl) rfl
    hb (ok_one (by kernel_rfl) rfl (okWide_bool_mk Try.underlying4 _))⟩
theorem over_goldSums : Rows.goldSumsRow.holds Try.pinned (OpenSpec.ofChange Rows.goldSumsSpec) :=
  OpenClaim.holds_of_wide 3 Try.f3 rfl rfl rfl rfl rfl rfl rfl ⟨rfl, rfl, rfl, rfl, rfl⟩ rfl rfl rfl rfl rfl (by kernel_rfl) Try.func3 (by kernel_rfl)
    (of_decide_eq_true (by kernel_rfl)) (by unfold Func.isWrapper; first | (rw [if_pos (by decide +kernel)]; kernel_rfl) | (rw [if_neg (by decide +kernel)]; exact ⟨rfl, rfl⟩))
    (fun os started H enc _ => lifted_goldSums os started H enc)
theorem goldSums_proved : Rows.GoldSumsSaid := over_goldSums
#print axioms goldSums_proved
end Go.Proofs.Ytjoghehefefmdaa
