/-
  Any two numbers: wide's sums, differences and products are the document's.
-/
import Derived.Test.YtklhefbldjhkpaaWideE
namespace Go.Proofs.Ytklhefbldjhkpaa
open Go.ChangeShapes Go.WideShapes Go.ChangeAt Go.RowKit F Flow
set_option linter.unusedVariables false
attribute [local go_sem] eql_elem

set_option maxHeartbeats 2000000 in
theorem wideSums_walk (a B : Int) (a0 : 0 ≤ a) (a1 : a < 340282366920938463463374607431768211456) (b0 : 0 ≤ B) (b1 : B < 340282366920938463463374607431768211456) (w : World) :
    Calls Try.prog 3 #[.agg #[.int .u64 (lo a), .int .u64 (hi a)], .agg #[.int .u64 (lo B), .int .u64 (hi B)]] w fun e w' => e = .returned (.bool true) ∧ Below w.heap.size w w' := by
  have hin := win_iff a0 a1
  have ra := redu2_bound a
  have rb := redu2_bound B
  have hA := add_any 2 (redu 2 a) (redu 2 B) ra.1 ra.2 rb.1 rb.2
  have hS := sub_any 2 (redu 2 a) (redu 2 B) ra.1 ra.2 rb.1 rb.2
  have hM := mul_any 2 (redu 2 a) (redu 2 B) ra.1 ra.2 rb.1 rb.2
  have hN := neg_any 2 (redu 2 a) ra.1 ra.2
  rw [add_redu] at hA
  rw [sub_redu] at hS
  rw [mul_redu] at hM
  rw [neg_redu] at hN
  replace hA := Lib.hid hA
  replace hS := Lib.hid hS
  replace hM := Lib.hid hM
  replace hN := Lib.hid hN
  go_enter Try.func3, Try.ntmps3
  go_wp2_with fail
  refine name_calls (fun w1 => Below w.heap.size w w1 ∧ w1.heap[w.heap.size]? = some (.cells #[.int .u64 (lo a), .int .u64 (hi a)] 24 (0, 0)) ∧ w1.heap[w.heap.size + 1]? = some (.cells #[.int .u64 (lo B), .int .u64 (hi B)] 24 (0, 0)))
    ⟨((Below.refl _ _).alloc (Nat.le_refl _) _).alloc (by simp) _, alloc_keeps (alloc_at rfl), alloc_at (by simp)⟩ ?_
  rintro w1 ⟨hb, k0, k1⟩
  refine call_then (wawake_any _) ?_
  intro w2 hw2
  replace hb := below_next hb hb.size hw2
  replace k0 := keeps hw2 k0
  replace k1 := keeps hw2 k1
  clear hw2
  obtain ⟨c0, d0, f0, g0⟩ := blk2 k0
  obtain ⟨c1, d1, f1, g1⟩ := blk2 k1
  go_wp2_with fail
  clear c0 d0 f0 g0 c1 d1 f1 g1
  refine wp_region_flow3 4 _ _ (.cells #[.int .u64 0, .int .u64 0] 24 (0, 0)) (.cells #[.int .u64 0, .int .u64 0] 24 (0, 0)) (by kernel_rfl) (by kernel_rfl) (by kernel_rfl) rfl rfl rfl rfl (fun _ _ => by simp [go_sem]) (fun _ _ => by simp [go_sem]) ?_
  apply Exists.intro
  refine ⟨fun ι _ φ hφ => ?_, fun w3 b c hw3 hbb hcc hbc kb kc => ?_⟩
  · obtain ⟨c0, d0⟩ := hφ.two k0
    obtain ⟨c1, d1⟩ := hφ.two k1
    simp only [List.take_succ_cons, List.take_zero]
    repeat (go_big_quiet_step ((first
      | (go_at_call 9; exact flow_call hφ (of_any 2 _ (by omega) (by omega) _)))))
    exact wpQuiet_nil rfl
  have hsz := lt_of_get k1
  replace hb := below_next hb hb.size hw3
  replace k0 := keeps hw3 k0
  replace k1 := keeps hw3 k1
  clear hw3
  have n0 : w.heap.size ≠ b := by omega
  have n1 : w.heap.size ≠ c := by omega
  have m0 : w.heap.size + 1 ≠ b := by omega
  have m1 : w.heap.size + 1 ≠ c := by omega
  obtain ⟨c0, d0, f0, g0⟩ := blk2 kb
  obtain ⟨c1, d1, f1, g1⟩ := blk2 kc
  have hcb : c ≠ b := Ne.symm hbc
  simp only [List.drop_succ_cons, List.drop_zero, Act.put]
  go_wp2
  refine name_wp (fun w1 => Below w.heap.size w w1 ∧ w1.heap[w.heap.size]? = some (.cells #[.int .u64 (lo a), .int .u64 (hi a)] 24 (0, 0)) ∧ w1.heap[w.heap.size + 1]? = some (.cells #[.int .u64 (lo B), .int .u64 (hi B)] 24 (0, 0)) ∧
      w1.heap[b]? = some (.cells #[.int .u64 (lo (redu 2 a)), .int .u64 (hi (redu 2 a))] 24 (0, 0)) ∧ w1.heap[c]? = some (.cells #[.int .u64 (lo (redu 2 B)), .int .u64 (hi (redu 2 B))] 24 (0, 0)))
    ⟨below_store2 (below_store2 hb (by omega)) (by omega), store2_far (store2_far k0 n0) n1, store2_far (store2_far k1 m0) m1, store2_far (store2 kb) hbc, store2 (store2_far kc hcb)⟩ ?_
  clear c0 d0 f0 g0 c1 d1 f1 g1 hb k0 k1 kb kc n0 n1 m0 m1 hbb hcc hbc hcb hsz
  rintro w4 ⟨b3, k0, k1, kb, kc⟩
  refine wp_region_flow0 (by kernel_rfl) (by kernel_rfl) ?_
  intro ι _ φ hφ
  obtain ⟨c0, d0⟩ := hφ.two k0
  obtain ⟨c1, d1⟩ := hφ.two k1
  obtain ⟨c2, d2⟩ := hφ.two kb
  obtain ⟨c3, d3⟩ := hφ.two kc
  repeat (go_big_quiet_step ((first
    | (go_at_call 10; exact flow_call hφ (wof_any a a0 a1 _))
    | (go_at_call 11; exact flow_call hφ (win_any a _))
    | (go_at_call 12; exact flow_call hφ (wadd_any a B a0 a1 b0 b1 _))
    | (go_at_call 14; exact flow_call hφ (wsub_any a B a0 a1 b0 b1 _))
    | (go_at_call 16; exact flow_call hφ (wneg_any a a0 a1 _))
    | (go_at_call 18; exact flow_call hφ (wmul_any a B a0 a1 b0 b1 _))
    | (go_at_call 13; exact flow_call hφ (hA.out _))
    | (go_at_call 15; exact flow_call hφ (hS.out _))
    | (go_at_call 19; exact flow_call hφ (hM.out _))
    | (go_at_call 17; exact flow_call hφ (hN.out _)))))
  refine wpQuiet_nil ?_
  intro w5 hw5
  clear c0 d0 c1 d1 c2 d2 c3 d3 hφ
  go_wp2
  go_ret
  exact ⟨rfl, below_next b3 b3.size hw5⟩

theorem own_wideSums : ownKnob Try.prog.godebug = none := by kernel_rfl
set_option maxRecDepth 100000 in
theorem lifted_wideSums (os : Os) (started : os.Started) (H : Type) (enc : TypeId × Value → H) :
    ReturnsInHanded {} Try.checked os 3 .any (Rows.wideSumsSpec.pre6 enc Try.prog Try.f3 Rows.wideSumsRow.domain false) (Rows.wideSumsSpec.post enc Try.prog Try.f3 false true false false) := by
  refine returnsInHanded_of_change (C := Try.checked) own_wideSums started (by kernel_rfl) Try.func3
    (ChangeSpec.witness6 (enc := enc) (C := Try.checked) false ⟨#[], #[.agg #[.int .u64 0, .int .u64 0], .agg #[.int .u64 0, .int .u64 0]], []⟩ 8 (by kernel_rfl) (by kernel_rfl) (by kernel_rfl) (by kernel_rfl)) ?_
  intro W base args ds gs before hval0 hW hcnd _
  have hval : ∀ (j : Nat) t v, Try.f3.params[j]? = some t → args[j]? = some v → Value.okWide Try.prog W .any base t v := hval0
  have hW' := hW
  obtain ⟨p, q, hA0, hV, rfl, hfz, hnd⟩ := hW
  have hA : DataW.TrodAll enc Try.prog W 0 (fun _ => true) true Try.f3.params.toList args.toList ds p := hA0
  rw [Try.params3] at hA hval
  obtain ⟨v0, vs0, d0, ds0, p0, q0, hargs, rfl, rfl, h0, r0⟩ := trodAll_cons hA
  obtain ⟨v1, vs1, d1, ds1, p1, q1, rfl, rfl, rfl, h1, r1⟩ := trodAll_cons r0
  obtain ⟨rfl, rfl, rfl⟩ := trodAll_nil r1
  obtain rfl : args = #[v0, v1] := by cases args; simp_all
  obtain ⟨rfl, rfl⟩ := trodVars_none hV
  obtain ⟨a0, w0, u0, rfl, rfl, rfl⟩ := open_elem (hval 0 24 v0 rfl rfl) h0
  obtain ⟨a1, w1, u1, rfl, rfl, rfl⟩ := open_elem (hval 1 24 v1 rfl rfl) h1
  clear hA0 hval0
  simp only [List.append_nil] at hW'
  refine (wideSums_walk a0 a1 w0 u0 w1 u1 W).mono fun e W' ⟨he, hb⟩ => ?_
  subst he
  exact ⟨_, rfl, post_of_below (pa := []) (pv := []) hW' (fun _ _ _ => (trodAll_cons_mk (shut_bool Try.underlying4 _) trodAll_mk0)) (fun sp _ => (trodAll_cons_mk (shut_elem w0 u0) (trodAll_cons_mk (shut_elem w1 u1) trodAll_mk0))) (fun _ _ => rfl) rfl
    hb (ok_one (by kernel_rfl) rfl (okWide_bool_mk Try.underlying4 _))⟩
theorem over_wideSums : Rows.wideSumsRow.holds Try.pinned (OpenSpec.ofChange Rows.wideSumsSpec) :=
  OpenClaim.holds_of_wide 3 Try.f3 rfl rfl rfl rfl rfl rfl rfl ⟨rfl, rfl, rfl, rfl, rfl⟩ rfl rfl rfl rfl rfl (by kernel_rfl) Try.func3 (by kernel_rfl)
    (of_decide_eq_true (by kernel_rfl)) (by unfold Func.isWrapper; first | (rw [if_pos (by decide +kernel)]; kernel_rfl) | (rw [if_neg (by decide +kernel)]; exact ⟨rfl, rfl⟩))
    (fun os started H enc _ => lifted_wideSums os started H enc)
theorem wideSums_proved : Rows.WideSumsSaid := over_wideSums
#print axioms wideSums_proved
end Go.Proofs.Ytklhefbldjhkpaa
