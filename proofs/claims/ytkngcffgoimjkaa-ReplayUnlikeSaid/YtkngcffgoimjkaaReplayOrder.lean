/-
  ReplayOrder, proved: which of two ids comes first; for any two ids, with no condition.
-/
import Derived.Test.YtkngcffgoimjkaaReplayC
import Derived.Test.YtkngcffgoimjkaaEqInts
import Derived.Test.YtkngcffgoimjkaaFrame
import Derived.Test.YtkngcffgoimjkaaPost
import Derived.Test.YtkngcffgoimjkaaArr
namespace Go.Proofs.Ytkngcffgoimjkaa
open Go.RowKit Go.WideShapes Go.ChangeShapes Flow
set_option linter.unusedVariables false

set_option maxHeartbeats 4000000 in
theorem replayOrder_walk (xs ys : List Int) (hx : xs.length = 16) (hy : ys.length = 16) (bx : ByteList xs) (by_ : ByteList ys) (w : World) : Calls Try.prog 5 #[idv xs, idv ys] w fun e w' => e = .returned (.bool true) ∧ Below w.heap.size w w' := by
  have hlen := hx.trans hy.symm
  have hcmp := Lib.hid (compare_any xs ys hx hy bx by_)
  have hl1 := Lib.hid (less_any xs ys hx hy)
  have hl2 := Lib.hid (less_any ys xs hy hx)
  have n1 := idCmp_neg xs ys hlen
  have n2 := idCmp_pos xs ys hlen
  have n3 := idCmp_zero xs ys hlen
  have heq : ∀ w, (Op.equalIn 10000 29 (.agg (xs.map (Value.int .u8)).toArray) (.agg (ys.map (Value.int .u8)).toArray)).run Try.prog w = .ok (xs == ys) w := fun w => run_equalIn_ints Try.underlying29 Try.underlying5 Try.sizeOf5 9998 xs ys hx hy w
  clear bx by_ hlen
  generalize idCmp xs ys = r at *
  generalize idLess xs ys = b1 at *
  generalize idLess ys xs = b2 at *
  generalize (xs == ys) = b3 at *
  unfold idv at *
  go_enter Try.func5, Try.ntmps5
  go_upto_region 1 with (fail)
  refine name_wp (fun w1 => Below w.heap.size w w1 ∧ At0 w1 w.heap.size (xs.map (Value.int .u8)) ∧ At0 w1 (w.heap.size + 1) (ys.map (Value.int .u8)))
    ⟨((Below.refl _ _).alloc (Nat.le_refl _) _).alloc (by simp) _, At0.of_block (alloc_keeps (alloc_at rfl)), At0.of_block (alloc_at (by simp))⟩ ?_
  rintro w1 ⟨hb, kx, ky⟩
  go_wp2_with fail
  refine call_then (replay_awake _) ?_
  intro w2 hb2
  replace hb := below_next hb hb.size hb2
  replace kx := kx.up hb2
  replace ky := ky.up hb2
  clear hb2
  go_wp2_with (first | (refine list_load_mid _ _ _ 0 _ _ rfl rfl rfl kx Try.underlying29 rfl (by rw [List.length_map, hx]; kernel_rfl) ?_) | (refine list_load_mid _ _ _ 0 _ _ rfl rfl rfl ky Try.underlying29 rfl (by rw [List.length_map, hy]; kernel_rfl) ?_))
  refine call_then (hcmp.out _) ?_
  intro w2 hb2
  replace hb := below_next hb hb.size hb2
  replace kx := kx.up hb2
  replace ky := ky.up hb2
  clear hb2
  go_wp2_with (first | (refine list_load_mid _ _ _ 0 _ _ rfl rfl rfl kx Try.underlying29 rfl (by rw [List.length_map, hx]; kernel_rfl) ?_) | (refine list_load_mid _ _ _ 0 _ _ rfl rfl rfl ky Try.underlying29 rfl (by rw [List.length_map, hy]; kernel_rfl) ?_))
  refine call_then (hl1.out _) ?_
  intro w2 hb2
  replace hb := below_next hb hb.size hb2
  replace kx := kx.up hb2
  replace ky := ky.up hb2
  clear hb2
  go_wp2_with (first | (refine list_load_mid _ _ _ 0 _ _ rfl rfl rfl kx Try.underlying29 rfl (by rw [List.length_map, hx]; kernel_rfl) ?_) | (refine list_load_mid _ _ _ 0 _ _ rfl rfl rfl ky Try.underlying29 rfl (by rw [List.length_map, hy]; kernel_rfl) ?_))
  refine call_then (hl2.out _) ?_
  intro w2 hb2
  replace hb := below_next hb hb.size hb2
  replace kx := kx.up hb2
  replace ky := ky.up hb2
  clear hb2
  go_wp2_with (first | (refine list_load_mid _ _ _ 0 _ _ rfl rfl rfl kx Try.underlying29 rfl (by rw [List.length_map, hx]; kernel_rfl) ?_) | (refine list_load_mid _ _ _ 0 _ _ rfl rfl rfl ky Try.underlying29 rfl (by rw [List.length_map, hy]; kernel_rfl) ?_))
  go_ret
  exact ⟨rfl, hb⟩
theorem wf_bytes {zs : List Int} (h : ∀ z, z ∈ zs → (Lit.int .u8 z).wf = true) : ByteList zs := fun z hz => by
  have := h z hz
  simp [Lit.wf, IntKind.min, IntKind.max, IntKind.signed, IntKind.bits] at this
  omega

theorem own_replayOrder : ownKnob Try.prog.godebug = none := by kernel_rfl
set_option maxRecDepth 100000 in
theorem lifted_replayOrder (os : Os) (started : os.Started) (H : Type) (enc : TypeId × Value → H) :
    ReturnsInHanded {} Try.checked os 5 .any (Rows.replayOrderSpec.pre6 enc Try.prog Try.f5 Rows.replayOrderRow.domain false) (Rows.replayOrderSpec.post enc Try.prog Try.f5 false true false false) := by
  refine returnsInHanded_of_change (C := Try.checked) own_replayOrder started (by kernel_rfl) Try.func5
    (ChangeSpec.witness6 (enc := enc) (C := Try.checked) false ⟨#[], #[.agg #[.int .u8 0, .int .u8 0, .int .u8 0, .int .u8 0, .int .u8 0, .int .u8 0, .int .u8 0, .int .u8 0, .int .u8 0, .int .u8 0, .int .u8 0, .int .u8 0, .int .u8 0, .int .u8 0, .int .u8 0, .int .u8 0], .agg #[.int .u8 0, .int .u8 0, .int .u8 0, .int .u8 0, .int .u8 0, .int .u8 0, .int .u8 0, .int .u8 0, .int .u8 0, .int .u8 0, .int .u8 0, .int .u8 0, .int .u8 0, .int .u8 0, .int .u8 0, .int .u8 0]], []⟩ 8 (by kernel_rfl) (by kernel_rfl) (by kernel_rfl) (by kernel_rfl)) ?_
  intro W base args ds gs before hval0 hW hcnd _
  have hval : ∀ (j : Nat) t v, Try.f5.params[j]? = some t → args[j]? = some v → Value.okWide Try.prog W .any base t v := hval0
  have hW' := hW
  obtain ⟨p, q, hA0, hV, rfl, hfz, hnd⟩ := hW
  have hA : DataW.TrodAll enc Try.prog W 0 (fun _ => true) true Try.f5.params.toList args.toList ds p := hA0
  rw [Try.params5] at hA hval
  clear hA0 hval0
  obtain ⟨v0, vs0, d0, ds0, p0, q0, hargs, rfl, rfl, h0, r0⟩ := trodAll_cons hA
  obtain ⟨v1, vs1, d1, ds1, p1, q1, rfl, rfl, rfl, h1, r1⟩ := trodAll_cons r0
  obtain ⟨rfl, rfl, rfl⟩ := trodAll_nil r1
  obtain rfl : args = #[v0, v1] := by cases args; simp_all
  obtain ⟨rfl, rfl⟩ := trodVars_none hV
  obtain ⟨x0, l0, rfl, _, _, w0⟩ := open_int_array Try.underlying29 Try.underlying5 (by kernel_rfl) (by kernel_rfl) (hval 0 29 v0 rfl rfl) h0
  obtain ⟨x1, l1, rfl, _, _, w1⟩ := open_int_array Try.underlying29 Try.underlying5 (by kernel_rfl) (by kernel_rfl) (hval 1 29 v1 rfl rfl) h1
  refine (replayOrder_walk x0 x1 l0 l1 (wf_bytes w0) (wf_bytes w1) W).mono fun e W' ⟨he, hb⟩ => ?_
  subst he
  exact ⟨_, rfl, law_true (by decide +kernel) rfl rfl Try.underlying4 hW' rfl hb⟩
theorem over_replayOrder : Rows.replayOrderRow.holds Try.pinned (OpenSpec.ofChange Rows.replayOrderSpec) :=
  OpenClaim.holds_of_wide 5 Try.f5 rfl rfl rfl rfl rfl rfl rfl ⟨rfl, rfl, rfl, rfl, rfl⟩ rfl rfl rfl rfl rfl (by kernel_rfl) Try.func5 (by kernel_rfl)
    (of_decide_eq_true (by kernel_rfl)) (by unfold Func.isWrapper; first | (rw [if_pos (by decide +kernel)]; kernel_rfl) | (rw [if_neg (by decide +kernel)]; exact ⟨rfl, rfl⟩))
    (fun os started H enc _ => lifted_replayOrder os started H enc)
theorem replayOrder_proved : Rows.ReplayOrderSaid := over_replayOrder
#print axioms replayOrder_proved
end Go.Proofs.Ytkngcffgoimjkaa
