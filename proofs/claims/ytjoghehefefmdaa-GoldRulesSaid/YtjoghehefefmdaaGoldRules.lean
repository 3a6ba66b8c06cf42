/-
  Any three numbers: gold's sums and products keep the rules of a field.
-/
import Derived.Test.YtjoghehefefmdaaGoldC
namespace Go.Proofs.Ytjoghehefefmdaa
open Go.ChangeShapes Go.WideShapes Go.ChangeAt Go.RowKit F Flow
set_option linter.unusedVariables false

theorem mul_emod_r (x y m : Int) : x * (y % m) % m = x * y % m := by rw [Int.mul_emod, Int.emod_emod, ← Int.mul_emod]
theorem mul_emod_l (x y m : Int) : x % m * y % m = x * y % m := by rw [Int.mul_emod, Int.emod_emod, ← Int.mul_emod]
theorem sub_emod_l (x y m : Int) : (x % m - y) % m = (x - y) % m := by rw [Int.sub_emod, Int.emod_emod, ← Int.sub_emod]
theorem add_swap (f a b : Int) : add f b a = add f a b := by unfold add; rw [Int.add_comm]
theorem mul_swap (f a b : Int) : mul f b a = mul f a b := by unfold mul; rw [Int.mul_comm]
theorem redu_mul (f a b : Int) : redu f (mul f a b) = mul f a b := redu_of_lt (mul_bound f a b).1 (mul_bound f a b).2
theorem redu_add (f a b : Int) : redu f (add f a b) = add f a b := redu_of_lt (add_bound f a b).1 (add_bound f a b).2
theorem redu_neg (f a : Int) : redu f (neg f a) = neg f a := redu_of_lt (neg_bound f a).1 (neg_bound f a).2
theorem mul_add (f a b c : Int) : add f (mul f a b) (mul f a c) = mul f a (add f b c) := by
  rw [show ∀ x y, add f x y = (redu f x + redu f y) % M f from fun _ _ => rfl, redu_mul, redu_mul, show ∀ x y, mul f x y = redu f x * redu f y % M f from fun _ _ => rfl]
  rw [show mul f a (add f b c) = redu f a * redu f (add f b c) % M f from rfl, redu_add]
  rw [show mul f a c = redu f a * redu f c % M f from rfl, show add f b c = (redu f b + redu f c) % M f from rfl, mul_emod_r, ← Int.add_emod, Int.mul_add]
theorem mul_assoc (f a b c : Int) : mul f a (mul f b c) = mul f (mul f a b) c := by
  rw [show mul f a (mul f b c) = redu f a * redu f (mul f b c) % M f from rfl, redu_mul, show mul f b c = redu f b * redu f c % M f from rfl, mul_emod_r]
  rw [show mul f (mul f a b) c = redu f (mul f a b) * redu f c % M f from rfl, redu_mul, show mul f a b = redu f a * redu f b % M f from rfl, mul_emod_l, Int.mul_assoc]
theorem add_neg (f a : Int) : add f a (neg f a) = 0 := by
  rw [show add f a (neg f a) = (redu f a + redu f (neg f a)) % M f from rfl, redu_neg, show neg f a = (- redu f a) % M f from rfl, Int.add_emod_emod, Int.add_right_neg, Int.zero_emod]
theorem sub_add (f a b : Int) : sub f (add f a b) b = redu f a := by
  rw [show sub f (add f a b) b = (redu f (add f a b) - redu f b) % M f from rfl, redu_add, show add f a b = (redu f a + redu f b) % M f from rfl, sub_emod_l, Int.add_sub_cancel]
  exact Int.emod_eq_of_lt (redu_nonneg f a) (redu_lt f a)

set_option maxHeartbeats 2000000 in
theorem goldRules_walk (a b c : Int) (wa : (Lit.int .u64 a).wf = true) (wb : (Lit.int .u64 b).wf = true) (wc : (Lit.int .u64 c).wf = true) (w : World) :
    Calls Try.prog 5 #[.int .u64 a, .int .u64 b, .int .u64 c] w fun e w' => e = .returned (.bool true) ∧ Below w.heap.size w w' := by
  obtain ⟨a0, a1⟩ := wf_u64 wa
  obtain ⟨b0, b1⟩ := wf_u64 wb
  obtain ⟨c0, c1⟩ := wf_u64 wc
  clear wa wb wc
  have r1 := add_swap 1 a b
  have r2 := mul_swap 1 a b
  have r3 := mul_add 1 a b c
  have r4 := mul_assoc 1 a b c
  have r5 := add_neg 1 a
  have r6 := sub_add 1 a b
  have m1 := mul_bound 1 a b
  have m2 := mul_bound 1 a c
  have m3 := mul_bound 1 b c
  have m4 := add_bound 1 b c
  have m5 := add_bound 1 a b
  have m6 := neg_bound 1 a
  rw [M1] at m1 m2 m3 m4 m5 m6
  have hb := Below.refl w.heap.size w
  go_enter Try.func5, Try.ntmps5
  go_wp2_with (first
    | (go_at_call 8; refine call_then (awake_any _) ?_; intro wn hwn; replace hb := below_next hb hb.size hwn; clear hwn)
    | (go_at_call 13; refine (gadd_any _ _ (by omega) (by omega) (by omega) (by omega) _).mono ?_; rintro e w' ⟨rfl, rfl⟩)
    | (go_at_call 15; refine (gsub_any _ _ (by omega) (by omega) (by omega) (by omega) _).mono ?_; rintro e w' ⟨rfl, rfl⟩)
    | (go_at_call 17; refine (gneg_any _ (by omega) (by omega) _).mono ?_; rintro e w' ⟨rfl, rfl⟩)
    | (go_at_call 11; refine (gof_any _ (by omega) (by omega) _).mono ?_; rintro e w' ⟨rfl, rfl⟩)
    | (go_at_call 19; refine call_then (gmul_any _ _ (by omega) (by omega) (by omega) (by omega) _) ?_; intro wn hwn; replace hb := below_next hb hb.size hwn; clear hwn)
    )
  go_ret
  exact ⟨rfl, hb⟩

theorem own_goldRules : ownKnob Try.prog.godebug = none := by kernel_rfl
set_option maxRecDepth 100000 in
theorem lifted_goldRules (os : Os) (started : os.Started) (H : Type) (enc : TypeId × Value → H) :
    ReturnsInHanded {} Try.checked os 5 .any (Rows.goldRulesSpec.pre6 enc Try.prog Try.f5 Rows.goldRulesRow.domain false) (Rows.goldRulesSpec.post enc Try.prog Try.f5 false true false false) := by
  refine returnsInHanded_of_change (C := Try.checked) own_goldRules started (by kernel_rfl) Try.func5
    (ChangeSpec.witness6 (enc := enc) (C := Try.checked) false ⟨#[], #[.int .u64 0, .int .u64 0, .int .u64 0], []⟩ 8 (by kernel_rfl) (by kernel_rfl) (by kernel_rfl) (by kernel_rfl)) ?_
  intro W base args ds gs before hval0 hW hcnd _
  have hval : ∀ (j : Nat) t v, Try.f5.params[j]? = some t → args[j]? = some v → Value.okWide Try.prog W .any base t v := hval0
  have hW' := hW
  obtain ⟨p, q, hA0, hV, rfl, hfz, hnd⟩ := hW
  have hA : DataW.TrodAll enc Try.prog W 0 (fun _ => true) true Try.f5.params.toList args.toList ds p := hA0
  rw [Try.params5] at hA hval
  obtain ⟨v0, vs0, d0, ds0, p0, q0, hargs, rfl, rfl, h0, r0⟩ := trodAll_cons hA
  obtain ⟨v1, vs1, d1, ds1, p1, q1, rfl, rfl, rfl, h1, r1⟩ := trodAll_cons r0
  obtain ⟨v2, vs2, d2, ds2, p2, q2, rfl, rfl, rfl, h2, r2⟩ := trodAll_cons r1
  obtain ⟨rfl, rfl, rfl⟩ := trodAll_nil r2
  obtain rfl : args = #[v0, v1, v2] := by cases args; simp_all
  obtain ⟨rfl, rfl⟩ := trodVars_none hV
  obtain ⟨a0, rfl, rfl, rfl, w0⟩ := open_int Try.underlying22 (hval 0 22 v0 rfl rfl) h0
  obtain ⟨a1, rfl, rfl, rfl, w1⟩ := open_int Try.underlying22 (hval 1 22 v1 rfl rfl) h1
  obtain ⟨a2, rfl, rfl, rfl, w2⟩ := open_int Try.underlying22 (hval 2 22 v2 rfl rfl) h2
  clear hA0 hval0
  simp only [List.append_nil] at hW'
  refine (goldRules_walk a0 a1 a2 w0 w1 w2 W).mono fun e W' ⟨he, hb⟩ => ?_
  subst he
  exact ⟨_, rfl, post_of_below (pa := []) (pv := []) hW' (fun _ _ _ => (trodAll_cons_mk (shut_bool Try.underlying4 _) trodAll_mk0)) (fun sp _ => (trodAll_cons_mk (shut_int Try.underlying22 w0) (trodAll_cons_mk (shut_int Try.underlying22 w1) (trodAll_cons_mk (shut_int Try.underlying22 w2) trodAll_mk0)))) (fun _ _ => rfl) rfl
    hb (ok_one (by kernel_rfl) rfl (okWide_bool_mk Try.underlying4 _))⟩
theorem over_goldRules : Rows.goldRulesRow.holds Try.pinned (OpenSpec.ofChange Rows.goldRulesSpec) :=
  OpenClaim.holds_of_wide 5 Try.f5 rfl rfl rfl rfl rfl rfl rfl ⟨rfl, rfl, rfl, rfl, rfl⟩ rfl rfl rfl rfl rfl (by kernel_rfl) Try.func5 (by kernel_rfl)
    (of_decide_eq_true (by kernel_rfl)) (by unfold Func.isWrapper; first | (rw [if_pos (by decide +kernel)]; kernel_rfl) | (rw [if_neg (by decide +kernel)]; exact ⟨rfl, rfl⟩))
    (fun os started H enc _ => lifted_goldRules os started H enc)
theorem goldRules_proved : Rows.GoldRulesSaid := over_goldRules
#print axioms goldRules_proved
end Go.Proofs.Ytjoghehefefmdaa
