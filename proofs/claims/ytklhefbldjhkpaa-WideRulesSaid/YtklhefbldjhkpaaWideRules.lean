/-
  Any three numbers: wide's sums and products keep the rules of a field.
-/
import Derived.Test.YtklhefbldjhkpaaWideE
import Derived.Test.YtklhefbldjhkpaaRules
namespace Go.Proofs.Ytklhefbldjhkpaa
open Go.ChangeShapes Go.WideShapes Go.ChangeAt Go.RowKit F Flow
set_option linter.unusedVariables false
attribute [local go_sem] eql_elem

set_option maxHeartbeats 4000000 in
theorem wideRules_walk (a b c : Int) (a0 : 0 ≤ a) (a1 : a < 340282366920938463463374607431768211456) (b0 : 0 ≤ b) (b1 : b < 340282366920938463463374607431768211456) (c0 : 0 ≤ c) (c1 : c < 340282366920938463463374607431768211456) (w : World) :
    Calls Try.prog 5 #[.agg #[.int .u64 (lo a), .int .u64 (hi a)], .agg #[.int .u64 (lo b), .int .u64 (hi b)], .agg #[.int .u64 (lo c), .int .u64 (hi c)]] w fun e w' => e = .returned (.bool true) ∧ Below w.heap.size w w' := by
  have r1 := add_swap 2 a b
  have r2 := mul_swap 2 a b
  have r3 := mul_add 2 a b c
  have r4 := mul_assoc 2 a b c
  have r5 := add_neg 2 a
  have r6 := sub_add 2 a b
  have m1 := mul_bound 2 a b
  have m2 := mul_bound 2 a c
  have m3 := mul_bound 2 b c
  have m4 := add_bound 2 b c
  have m5 := add_bound 2 a b
  have m6 := neg_bound 2 a
  rw [M2] at m1 m2 m3 m4 m5 m6
  have z0 : lo 0 = 0 := rfl
  have z1 : hi 0 = 0 := rfl
  go_enter Try.func5, Try.ntmps5
  go_wp2_with fail
  refine name_calls (fun w1 => Below w.heap.size w w1 ∧ w1.heap[w.heap.size]? = some (.cells #[.int .u64 (lo a), .int .u64 (hi a)] 24 (0, 0)) ∧ w1.heap[w.heap.size + 1]? = some (.cells #[.int .u64 (lo b), .int .u64 (hi b)] 24 (0, 0)) ∧
      w1.heap[w.heap.size + 1 + 1]? = some (.cells #[.int .u64 (lo c), .int .u64 (hi c)] 24 (0, 0)))
    ⟨(((Below.refl _ _).alloc (Nat.le_refl _) _).alloc (by simp) _).alloc (by simp; omega) _, alloc_keeps (alloc_keeps (alloc_at rfl)), alloc_keeps (alloc_at (by simp)), alloc_at (by simp)⟩ ?_
  rintro w1 ⟨hb, k0, k1, k2⟩
  refine call_then (wawake_any _) ?_
  intro w2 hw2
  replace hb := below_next hb hb.size hw2
  replace k0 := keeps hw2 k0
  replace k1 := keeps hw2 k1
  replace k2 := keeps hw2 k2
  clear hw2
  go_wp2
  refine wp_region_flow0 (by kernel_rfl) (by kernel_rfl) ?_
  intro ι _ φ hφ
  obtain ⟨x0, y0⟩ := hφ.two k0
  obtain ⟨x1, y1⟩ := hφ.two k1
  obtain ⟨x2, y2⟩ := hφ.two k2
  repeat (go_big_quiet_step ((first
    | (go_at_call 10; exact flow_call hφ (wof_any _ (by omega) (by omega) _))
    | (go_at_call 12; exact flow_call hφ (wadd_any _ _ (by omega) (by omega) (by omega) (by omega) _))
    | (go_at_call 14; exact flow_call hφ (wsub_any _ _ (by omega) (by omega) (by omega) (by omega) _))
    | (go_at_call 16; exact flow_call hφ (wneg_any _ (by omega) (by omega) _))
    | (go_at_call 18; exact flow_call hφ (wmul_any _ _ (by omega) (by omega) (by omega) (by omega) _)))))
  refine wpQuiet_nil ?_
  intro w5 hw5
  clear x0 y0 x1 y1 x2 y2 hφ
  go_wp2
  go_ret
  exact ⟨rfl, below_next hb hb.size hw5⟩

theorem own_wideRules : ownKnob Try.prog.godebug = none := by kernel_rfl
set_option maxRecDepth 100000 in
theorem lifted_wideRules (os : Os) (started : os.Started) (H : Type) (enc : TypeId × Value → H) :
    ReturnsInHanded {} Try.checked os 5 .any (Rows.wideRulesSpec.pre6 enc Try.prog Try.f5 Rows.wideRulesRow.domain false) (Rows.wideRulesSpec.post enc Try.prog Try.f5 false true false false) := by
  refine returnsInHanded_of_change (C := Try.checked) own_wideRules started (by kernel_rfl) Try.func5
    (ChangeSpec.witness6 (enc := enc) (C := Try.checked) false ⟨#[], #[.agg #[.int .u64 0, .int .u64 0], .agg #[.int .u64 0, .int .u64 0], .agg #[.int .u64 0, .int .u64 0]], []⟩ 8 (by kernel_rfl) (by kernel_rfl) (by kernel_rfl) (by kernel_rfl)) ?_
  intro W base args ds gs before hval0 hW hcnd _
  have hval : ∀ (j : Nat) t v, Try.f5.params[j]? = some t → args[j]? = some v → Value.okWide Try.prog W .any base t v := hval0
  have hW' := hW
  obtain ⟨p, q, hA0, hV, rfl, hfz, hnd⟩ := hW
  have hA : DataW.TrodAll enc Try.prog W 0 (fun _ => true) true Try.f5.params.toList args.toList ds p := hA0
  rw [Try.params5] at hA hval
  obtain ⟨v0, vs0, d0, ds0, p0, q0, hargs, rfl, rfl, h0, r0⟩ := trodAll_cons hA
  obtain ⟨v1, vs1, d1, ds1, p1, q1, rfl, rfl, rfl, h1, r1⟩ := trodAll_cons r0
  obtain ⟨v2, vs2, d2, ds2, p2, q2, rfl, rfl, rfl, h2, r2⟩ := trodAll_cons r1
  obtain ⟨rfl, rfl, rfl⟩ := trodAll_nil r2
  obtain rfl : args = #[v0, v1, v2] := by cases args; simp_all
  obtain ⟨rfl, rfl⟩ := trodVars_none hV
  obtain ⟨a0, w0, u0, rfl, rfl, rfl⟩ := open_elem (hval 0 24 v0 rfl rfl) h0
  obtain ⟨a1, w1, u1, rfl, rfl, rfl⟩ := open_elem (hval 1 24 v1 rfl rfl) h1
  obtain ⟨a2, w2, u2, rfl, rfl, rfl⟩ := open_elem (hval 2 24 v2 rfl rfl) h2
  clear hA0 hval0
  simp only [List.append_nil] at hW'
  refine (wideRules_walk a0 a1 a2 w0 u0 w1 u1 w2 u2 W).mono fun e W' ⟨he, hb⟩ => ?_
  subst he
  exact ⟨_, rfl, post_of_below (pa := []) (pv := []) hW' (fun _ _ _ => (trodAll_cons_mk (shut_bool Try.underlying4 _) trodAll_mk0)) (fun sp _ => (trodAll_cons_mk (shut_elem w0 u0) (trodAll_cons_mk (shut_elem w1 u1) (trodAll_cons_mk (shut_elem w2 u2) trodAll_mk0)))) (fun _ _ => rfl) rfl
    hb (ok_one (by kernel_rfl) rfl (okWide_bool_mk Try.underlying4 _))⟩
theorem over_wideRules : Rows.wideRulesRow.holds Try.pinned (OpenSpec.ofChange Rows.wideRulesSpec) :=
  OpenClaim.holds_of_wide 5 Try.f5 rfl rfl rfl rfl rfl rfl rfl ⟨rfl, rfl, rfl, rfl, rfl⟩ rfl rfl rfl rfl rfl (by kernel_rfl) Try.func5 (by kernel_rfl)
    (of_decide_eq_true (by kernel_rfl)) (by unfold Func.isWrapper; first | (rw [if_pos (by decide +kernel)]; kernel_rfl) | (rw [if_neg (by decide +kernel)]; exact ⟨rfl, rfl⟩))
    (fun os started H enc _ => lifted_wideRules os started H enc)
theorem wideRules_proved : Rows.WideRulesSaid := over_wideRules
#print axioms wideRules_proved
end Go.Proofs.Ytklhefbldjhkpaa
