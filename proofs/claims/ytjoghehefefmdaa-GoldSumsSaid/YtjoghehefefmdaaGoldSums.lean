/-
  Any two numbers: gold's sums, differences and products are the document's.
-/
import Derived.Test.YtjoghehefefmdaaGoldB
import Derived.Test.YtjoghehefefmdaaPost
namespace Go.Proofs.Ytjoghehefefmdaa
open Go.ChangeShapes Go.WideShapes Go.ChangeAt Go.RowKit F Flow
set_option linter.unusedVariables false
attribute [local go_sem] eql_elem

theorem e_any (a : Int) (w : World) :
    Calls Try.prog 10 #[.int .u64 a] w fun e w' => e = .returned (.agg #[.int .u64 a, .int .u64 0]) ∧ Below w.heap.size w w' := by
  go_enter Try.func10, Try.ntmps10
  go_wp2
  exact bodyPost_ret (v := .agg #[.int .u64 a, .int .u64 0]) (by simp [results, Try.results10, go_sem]) rfl ⟨rfl, ((Below.refl _ _).alloc (Nat.le_refl _) _)⟩

theorem awake_any (w : World) : Calls Try.prog 8 #[] w fun e w' => e = .returned (.bool true) ∧ Below w.heap.size w w' := by
  have e1 : neg 1 1 = 18446744069414584320 := by decide
  have e2 : mul 1 9223372036854775808 2 = 4294967295 := by decide
  have h1 := gneg_any 1 (by omega) (by omega)
  have h2 := gmul_any 9223372036854775808 2 (by omega) (by omega) (by omega) (by omega)
  rw [e1] at h1
  rw [e2] at h2
  clear e1 e2
  replace h1 := Lib.hid h1
  replace h2 := Lib.hid h2
  go_enter Try.func8, Try.ntmps8
  go_wp2_with (go_at_call 17; refine (h1.out _).mono ?_; rintro e w' ⟨rfl, rfl⟩)
  refine call_then (h2.out _) ?_
  intro w1 hw1
  go_wp2
  go_ret
  exact ⟨rfl, hw1⟩

theorem wf_u64 {a : Int} (h : (Lit.int .u64 a).wf = true) : 0 ≤ a ∧ a < 18446744073709551616 := by
  have : 0 ≤ a ∧ a ≤ 18446744073709551615 := by simpa [Lit.wf, IntKind.min, IntKind.max, IntKind.signed, IntKind.bits] using h
  omega

theorem ofE (a : Int) (h0 : 0 ≤ a) (h1 : a < 18446744073709551616) (w : World) :
    Calls Try.prog 9 #[.int .i64 1, .agg #[.int .u64 a, .int .u64 0]] w fun e w' => e = .returned (.agg #[.int .u64 (redu 1 a), .int .u64 0]) ∧ Below w.heap.size w w' := by
  have h := of_any 1 a h0 (by omega) w
  have b0 := redu_nonneg 1 a
  have b1 := redu_lt 1 a
  rw [M1] at b1
  rwa [lo_of_lt h0 h1, hi_of_lt h0 h1, lo_of_lt b0 (by omega), hi_of_lt b0 (by omega)] at h
theorem add_redu (f x y : Int) : add f (redu f x) (redu f y) = add f x y := by unfold add; rw [redu_redu, redu_redu]
theorem sub_redu (f x y : Int) : sub f (redu f x) (redu f y) = sub f x y := by unfold sub; rw [redu_redu, redu_redu]
theorem mul_redu (f x y : Int) : mul f (redu f x) (redu f y) = mul f x y := by unfold mul; rw [redu_redu, redu_redu]
theorem neg_redu (f x : Int) : neg f (redu f x) = neg f x := by unfold neg; rw [redu_redu]
theorem redu1_bound (a : Int) : 0 ≤ redu 1 a ∧ redu 1 a < 18446744073709551616 := by
  have b0 := redu_nonneg 1 a
  have b1 := redu_lt 1 a
  rw [M1] at b1
  omega
theorem addE (a b : Int) (w : World) :
    Calls Try.prog 14 #[.int .i64 1, .agg #[.int .u64 (redu 1 a), .int .u64 0], .agg #[.int .u64 (redu 1 b), .int .u64 0]] w fun e w' => e = .returned (.agg #[.int .u64 (add 1 a b), .int .u64 0]) ∧ Below w.heap.size w w' := by
  have ha := redu1_bound a
  have hb := redu1_bound b
  have h := add_any 1 (redu 1 a) (redu 1 b) ha.1 (by omega) hb.1 (by omega) w
  have hr := add_bound 1 a b
  rw [M1] at hr
  rwa [add_redu, lo_of_lt ha.1 ha.2, hi_of_lt ha.1 ha.2, lo_of_lt hb.1 hb.2, hi_of_lt hb.1 hb.2, lo_of_lt hr.1 (by omega), hi_of_lt hr.1 (by omega)] at h
theorem subE (a b : Int) (w : World) :
    Calls Try.prog 16 #[.int .i64 1, .agg #[.int .u64 (redu 1 a), .int .u64 0], .agg #[.int .u64 (redu 1 b), .int .u64 0]] w fun e w' => e = .returned (.agg #[.int .u64 (sub 1 a b), .int .u64 0]) ∧ Below w.heap.size w w' := by
  have ha := redu1_bound a
  have hb := redu1_bound b
  have h := sub_any 1 (redu 1 a) (redu 1 b) ha.1 (by omega) hb.1 (by omega) w
  have hr := sub_bound 1 a b
  rw [M1] at hr
  rwa [sub_redu, lo_of_lt ha.1 ha.2, hi_of_lt ha.1 ha.2, lo_of_lt hb.1 hb.2, hi_of_lt hb.1 hb.2, lo_of_lt hr.1 (by omega), hi_of_lt hr.1 (by omega)] at h
theorem mulE (a b : Int) (w : World) :
    Calls Try.prog 20 #[.int .i64 1, .agg #[.int .u64 (redu 1 a), .int .u64 0], .agg #[.int .u64 (redu 1 b), .int .u64 0]] w fun e w' => e = .returned (.agg #[.int .u64 (mul 1 a b), .int .u64 0]) ∧ Below w.heap.size w w' := by
  have ha := redu1_bound a
  have hb := redu1_bound b
  have h := mul_any 1 (redu 1 a) (redu 1 b) ha.1 (by omega) hb.1 (by omega) w
  have hr := mul_bound 1 a b
  rw [M1] at hr
  rwa [mul_redu, lo_of_lt ha.1 ha.2, hi_of_lt ha.1 ha.2, lo_of_lt hb.1 hb.2, hi_of_lt hb.1 hb.2, lo_of_lt hr.1 (by omega), hi_of_lt hr.1 (by omega)] at h
theorem negE (a : Int) (w : World) :
    Calls Try.prog 18 #[.int .i64 1, .agg #[.int .u64 (redu 1 a), .int .u64 0]] w fun e w' => e = .returned (.agg #[.int .u64 (neg 1 a), .int .u64 0]) ∧ Below w.heap.size w w' := by
  have ha := redu1_bound a
  have h := neg_any 1 (redu 1 a) ha.1 (by omega) w
  have hr := neg_bound 1 a
  rw [M1] at hr
  rwa [neg_redu, lo_of_lt ha.1 ha.2, hi_of_lt ha.1 ha.2, lo_of_lt hr.1 (by omega), hi_of_lt hr.1 (by omega)] at h
theorem in_iff {a : Int} (h0 : 0 ≤ a) (h1 : a < 18446744073709551616) : (redu 1 a == a) = decide (a < 18446744069414584321) := by
  by_cases h : a < 18446744069414584321
  · rw [gredu_small h0 h]; simp [h]
  · rw [gredu_big (by omega) h1]
    have : ¬ (a - 18446744069414584321 = a) := by omega
    simp [h, this]

theorem below_of_same {w w' : World} (h : w = w') : Below w.heap.size w w' := h ▸ Below.refl _ _
theorem flow_same {P : Program} {f : FuncId} {args : Array Value} {W : World} {ι : Type} {φ : ι → World} {i : ι} {v : Value} (h : Family W ι φ)
    (hc : Calls P f args (φ i) fun e w' => e = .returned v ∧ φ i = w') : Calls P f args (φ i) fun e w' => e = .returned v ∧ ∃ j, w' = φ j :=
  flow_call h (hc.mono fun _ _ ⟨he, hw⟩ => ⟨he, below_of_same hw⟩)

set_option maxHeartbeats 2000000 in
theorem goldSums_walk (a b : Int) (wa : (Lit.int .u64 a).wf = true) (wb : (Lit.int .u64 b).wf = true) (w : World) :
    Calls Try.prog 3 #[.int .u64 a, .int .u64 b] w fun e w' => e = .returned (.bool true) ∧ Below w.heap.size w w' := by
  obtain ⟨a0, a1⟩ := wf_u64 wa
  obtain ⟨b0, b1⟩ := wf_u64 wb
  clear wa wb
  have hin := in_iff a0 a1
  go_enter Try.func3, Try.ntmps3
  go_wp2_with fail
  refine call_then (awake_any _) ?_
  intro w1 hb1
  go_wp2_with fail
  refine call_then (e_any a _) ?_
  intro w2 hb2
  replace hb1 := below_next hb1 hb1.size hb2
  clear hb2
  go_wp2_with fail
  refine call_then (ofE a a0 a1 _) ?_
  intro w2 hb2
  replace hb1 := below_next hb1 hb1.size hb2
  clear hb2
  go_wp2_with fail
  refine call_then (e_any b _) ?_
  intro w2 hb2
  replace hb1 := below_next hb1 hb1.size hb2
  clear hb2
  go_wp2_with fail
  refine call_then (ofE b b0 b1 _) ?_
  intro w2 hb2
  replace hb1 := below_next hb1 hb1.size hb2
  clear hb2
  go_wp2
  refine name_wp (fun w1 => Below w.heap.size w w1 ∧ w1.heap[w2.heap.size]? = some (.cells #[.int .u64 (redu 1 a), .int .u64 0] 25 (0, 0)) ∧ w1.heap[w2.heap.size + 1]? = some (.cells #[.int .u64 (redu 1 b), .int .u64 0] 25 (0, 0)))
    ⟨(hb1.alloc hb1.size _).alloc (by simp; have := hb1.size; omega) _, alloc_keeps (alloc_at rfl), alloc_at (by simp)⟩ ?_
  clear hb1
  generalize w2.heap.size = n
  rintro w3 ⟨b3, k0, k1⟩
  refine wp_region_flow0 (by kernel_rfl) (by kernel_rfl) ?_
  intro ι _ φ hφ
  obtain ⟨c0, d0⟩ := hφ.two k0
  obtain ⟨c1, d1⟩ := hφ.two k1
  repeat (go_big_quiet_step ((first
    | (go_at_call 10; exact flow_call hφ (e_any _ _))
    | (go_at_call 11; exact flow_same hφ (gof_any a a0 a1 _))
    | (go_at_call 12; exact flow_same hφ (gin_any a _))
    | (go_at_call 13; exact flow_same hφ (gadd_any a b a0 a1 b0 b1 _))
    | (go_at_call 15; exact flow_same hφ (gsub_any a b a0 a1 b0 b1 _))
    | (go_at_call 17; exact flow_same hφ (gneg_any a a0 a1 _))
    | (go_at_call 19; exact flow_call hφ (gmul_any a b a0 a1 b0 b1 _))
    | (go_at_call 14; exact flow_call hφ (addE a b _))
    | (go_at_call 16; exact flow_call hφ (subE a b _))
    | (go_at_call 20; exact flow_call hφ (mulE a b _))
    | (go_at_call 18; exact flow_call hφ (negE a _)))))
  refine wpQuiet_nil ?_
  intro w4 hw4
  clear c0 d0 c1 d1 hφ
  go_wp2
  go_ret
  exact ⟨rfl, below_next b3 b3.size hw4⟩

theorem own_goldSums : ownKnob Try.prog.godebug = none := by kernel_rfl
set_option maxRecDepth 100000 in
theorem lifted_goldSums (os : Os) (started : os.Started) (H : Type) (enc : TypeId × Value → H) :
    ReturnsInHanded {} Try.checked os 3 .any (Rows.goldSumsSpec.pre6 enc Try.prog Try.f3 Rows.goldSumsRow.domain false) (Rows.goldSumsSpec.post enc Try.prog Try.f3 false true false false) := by
  refine returnsInHanded_of_change (C := Try.checked) own_goldSums started (by kernel_rfl) Try.func3
    (ChangeSpec.witness6 (enc := enc) (C := Try.checked) false ⟨#[], #[.int .u64 0, .int .u64 0], []⟩ 8 (by kernel_rfl) (by kernel_rfl) (by kernel_rfl) (by kernel_rfl)) ?_
  intro W base args ds gs before hval0 hW hcnd _
  have hval : ∀ (j : Nat) t v, Try.f3.params[j]? = some t → args[j]? = some v → Value.okWide Try.prog W .any base t v := hval0
  have hW' := hW
  obtain ⟨p, q, hA0, hV, rfl, hfz, hnd⟩ := hW
  have hA : DataW.TrodAll enc Try.prog W 0 (fun _ => true) true Try.f3.params.toList args.toList ds p := hA0
  rw [Try.params3] at hA hval
  obtain ⟨v0, vs0, d0, ds0, p0, q0, hargs, rfl, rfl, h0, r0⟩ := trodAll_cons hA
  obtain ⟨v1, vs1, d1, ds1, p1, q1, rfl, rfl, rfl, h1, r1⟩ := trodAll_cons r0
  obtain ⟨rfl, rfl, rfl⟩ := trodAll_nil r1
  obtain rfl : args = #[v0, v1] := by cases args; simp_all
  obtain ⟨rfl, rfl⟩ := trodVars_none hV
  obtain ⟨a0, rfl, rfl, rfl, w0⟩ := open_int Try.underlying22 (hval 0 22 v0 rfl rfl) h0
  obtain ⟨a1, rfl, rfl, rfl, w1⟩ := open_int Try.underlying22 (hval 1 22 v1 rfl rfl) h1
  clear hA0 hval0
  simp only [List.append_nil] at hW'
  refine (goldSums_walk a0 a1 w0 w1 W).mono fun e W' ⟨he, hb⟩ => ?_
  subst he
  exact ⟨_, rfl, post_of_below (pa := []) (pv := []) hW' (fun _ _ _ => (trodAll_cons_mk (shut_bool Try.underlying4 _) trodAll_mk0)) (fun sp _ => (trodAll_cons_mk (shut_int Try.underlying22 w0) (trodAll_cons_mk (shut_int Try.underlying22 w1) trodAll_mk0))) (fun _ _ => rfl) rfl
    hb (ok_one (by kernel_rfl) rfl (okWide_bool_mk Try.underlying4 _))⟩
theorem over_goldSums : Rows.goldSumsRow.holds Try.pinned (OpenSpec.ofChange Rows.goldSumsSpec) :=
  OpenClaim.holds_of_wide 3 Try.f3 rfl rfl rfl rfl rfl rfl rfl ⟨rfl, rfl, rfl, rfl, rfl⟩ rfl rfl rfl rfl rfl (by kernel_rfl) Try.func3 (by kernel_rfl)
    (of_decide_eq_true (by kernel_rfl)) (by unfold Func.isWrapper; first | (rw [if_pos (by decide +kernel)]; kernel_rfl) | (rw [if_neg (by decide +kernel)]; exact ⟨rfl, rfl⟩))
    (fun os started H enc _ => lifted_goldSums os started H enc)
theorem goldSums_proved : Rows.GoldSumsSaid := over_goldSums
#print axioms goldSums_proved
end Go.Proofs.Ytjoghehefefmdaa
