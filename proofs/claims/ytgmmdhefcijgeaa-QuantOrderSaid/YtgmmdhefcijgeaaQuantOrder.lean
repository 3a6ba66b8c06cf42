/-
  QuantOrder, proved: numbers with a fraction: the same; which comes first; their bits; for any two such numbers and any word, with no condition.
-/
import Derived.Test.YtgmmdhefcijgeaaQuantAwake
import Derived.Test.YtgmmdhefcijgeaaFloatMath
import Derived.Test.YtgmmdhefcijgeaaFrame
import Derived.Test.YtgmmdhefcijgeaaPost
namespace Go.Proofs.Ytgmmdhefcijgeaa
open Go.RowKit Go.WideShapes Go.ChangeShapes Flow
set_option linter.unusedVariables false
attribute [local go_sem] bits_run from_run

/-- A row of numbers with a fraction. -/
def Floats (w : World) (r : Nat) (W : List Nat) : Prop := w.heap[r]? = some (.cells (W.map (Value.float .f64)).toArray 27 (0, 0))
theorem Floats.cell {w : World} {r k : Nat} {W : List Nat} (h : Floats w r W) (hk : k < W.length) : w.cell? ⟨r, k, none⟩ = some (.float .f64 (W.getD k 0)) := by
  unfold Floats at h
  simp [World.cell?, h, hk]
theorem Floats.up {w w' : World} {r : Nat} {W : List Nat} (h : Floats w r W) (hb : Below w.heap.size w w') : Floats w' r W := keeps hb h
theorem cast_beq (a b : Nat) : ((a : Int) == (b : Int)) = (a == b) := by
  by_cases h : a = b
  · subst h; simp
  · have h2 : ¬ (a : Int) = (b : Int) := by omega
    rw [beq_eq_false_iff_ne.2 h, beq_eq_false_iff_ne.2 h2]
theorem left8 {k : Nat} (h : k < 8) : 8 - (intOf (.int .i64 ((k : Int) + 1))).toNat < 8 - (intOf (.int .i64 (k : Int))).toNat := by
  show 8 - ((k : Int) + 1).toNat < 8 - ((k : Int)).toNat
  omega
set_option maxRecDepth 20000 in
set_option maxHeartbeats 8000000 in
theorem quantOrder_walk (a b : Nat) (c : Int) (ha : a < 18446744073709551616) (hb' : b < 18446744073709551616) (c0 : 0 ≤ c) (c1 : c < 18446744073709551616) (w : World) :
    Calls Try.prog 6 #[.float .f64 a, .float .f64 b, .int .u64 c] w fun e w' => e = .returned (.bool true) ∧ Below w.heap.size w w' := by
  obtain ⟨W, hW⟩ : ∃ W : List Nat, W = [a, b, c.toNat, 9221120237041090561, 9218868437227405312, 18442240474082181120, 0, 9223372036854775808] := ⟨_, rfl⟩
  have hWl : W.length = 8 := by rw [hW]; rfl
  have hWb : ∀ k, k < 8 → W.getD k 0 < 18446744073709551616 := by
    intro k hk
    have : k = 0 ∨ k = 1 ∨ k = 2 ∨ k = 3 ∨ k = 4 ∨ k = 5 ∨ k = 6 ∨ k = 7 := by omega
    rw [hW]
    rcases this with rfl | rfl | rfl | rfl | rfl | rfl | rfl | rfl <;> first | exact ha | exact hb' | (show c.toNat < _; omega) | (simp)
  clear ha hb' c0 c1
  go_enter Try.func6, Try.ntmps6
  go_wp2_with fail
  refine call_then (quant_awake _) ?_
  intro w1 hb
  go_wp2_with fail
  refine call_then (nan_any _) ?_
  intro w2 hb2
  replace hb := below_next hb hb.size hb2
  clear hb2
  go_wp2_with fail
  refine call_then (inf_pos _) ?_
  intro w3 hb2
  replace hb := below_next hb hb.size hb2
  clear hb2
  go_wp2_with fail
  refine call_then (inf_neg _) ?_
  intro w4 hb2
  replace hb := below_next hb hb.size hb2
  clear hb2
  go_wp2_with fail
  refine call_then (copysign_zero _) ?_
  intro w5 hb2
  replace hb := below_next hb hb.size hb2
  clear hb2
  go_upto_region 4 with (fail)
  refine name_wp (fun w6 => Below w.heap.size w w6 ∧ Floats w6 w5.heap.size W) ⟨hb.alloc hb.size _, by rw [hW]; exact alloc_at rfl⟩ ?_
  clear hb
  generalize w5.heap.size = r at *
  rintro w6 ⟨hb, kr⟩
  replace hWl := Lib.hid hWl
  replace hWb := Lib.hid hWb
  clear hW
  go_wp2
  go_loopw [28] (fun i wr => ∃ k : Nat, k ≤ 8 ∧ i = .int .i64 (k : Int) ∧ Below w.heap.size w wr ∧ Floats wr r W) (fun i _ => 8 - (intOf i).toNat)
  case atStart => exact ⟨0, by omega, rfl, hb, kr⟩
  case round =>
    clear hb kr
    obtain ⟨k, hk, rfl, hb, kr⟩ := hrel
    by_cases hlt : k < 8
    · have hx := Lib.hid (hWb.out k hlt)
      have cx := kr.cell (k := k) (by rw [hWl.out]; exact hlt)
      generalize W.getD k 0 = x at *
      have k0 : (0 : Int) ≤ (k : Int) := by omega
      have k1 : (k : Int) < 8 := by omega
      go_wp2
      go_loopw [34] (fun i wr => ∃ j : Nat, j ≤ 8 ∧ i = .int .i64 (j : Int) ∧ Below w.heap.size w wr ∧ Floats wr r W) (fun i _ => 8 - (intOf i).toNat)
      case atStart => exact ⟨0, by omega, rfl, hb, kr⟩
      case round =>
        clear hb kr cx
        obtain ⟨j, hj, rfl, hb, kr⟩ := hrel
        by_cases hjl : j < 8
        · have hy := hWb.out j hjl
          have cy := kr.cell (k := j) (by rw [hWl.out]; exact hjl)
          generalize W.getD j 0 = y at *
          have j0 : (0 : Int) ≤ (j : Int) := by omega
          have j1 : (j : Int) < 8 := by omega
          have hS := same_any x y
          have hC := compare_any x y
          have hC2 := compare_any y x
          have hBx := Lib.hid (qbits_any x)
          have hBy := Lib.hid (qbits_any y)
          have hbb := bits_same hx.out hy
          rw [cmp_swap x y] at hC2
          rw [← cast_beq] at hbb
          unfold cmpF at hC hC2
          unfold sameF at hS hC hC2 hbb
          generalize bitsF x = bx at *
          generalize bitsF y = byy at *
          have n1e : (FloatKind.f64.format.order x x != some .eq) = isNan x := rfl
          have n2e : (FloatKind.f64.format.order y y != some .eq) = isNan y := rfl
          generalize isNan x = N1 at *
          generalize isNan y = N2 at *
          simp only [od] at hS hC hC2 hbb
          clear hx hy
          cases hE : (FloatKind.f64.format.order x y == some .eq) with
          | true =>
            simp only [hE, Bool.true_or, if_true, Int.neg_zero] at hS hC hC2 hbb
            replace hS := Lib.hid hS
            replace hC := Lib.hid hC
            replace hC2 := Lib.hid hC2
            clear n1e n2e
            go_wp2_with fail
            refine call_then (hC.out _) ?_
            intro w2 hb2
            replace hb := below_next hb hb.size hb2
            replace kr := kr.up hb2
            clear hb2
            go_wp2_with fail
            refine call_then (hS.out _) ?_
            intro w2 hb2
            replace hb := below_next hb hb.size hb2
            replace kr := kr.up hb2
            clear hb2
            go_wp2_with fail
            refine call_then (hC2.out _) ?_
            intro w2 hb2
            replace hb := below_next hb hb.size hb2
            replace kr := kr.up hb2
            clear hb2
            go_wp2_with fail
            refine call_then (hBx.out _) ?_
            intro w2 hb2
            replace hb := below_next hb hb.size hb2
            replace kr := kr.up hb2
            clear hb2
            go_wp2_with fail
            refine call_then (hBy.out _) ?_
            intro w2 hb2
            replace hb := below_next hb hb.size hb2
            replace kr := kr.up hb2
            clear hb2
            go_wp2
            exact ⟨⟨j + 1, by omega, by go_num, hb, kr⟩, left8 (by assumption)⟩
          | false =>
            cases N1 with
            | true =>
              cases N2 with
              | true =>
                simp only [hE, Bool.false_or, Bool.and_true, if_true, Int.neg_zero] at hS hC hC2 hbb
                replace hS := Lib.hid hS
                replace hC := Lib.hid hC
                replace hC2 := Lib.hid hC2
                go_wp2_with fail
                refine call_then (hC.out _) ?_
                intro w2 hb2
                replace hb := below_next hb hb.size hb2
                replace kr := kr.up hb2
                clear hb2
                go_wp2_with fail
                refine call_then (hS.out _) ?_
                intro w2 hb2
                replace hb := below_next hb hb.size hb2
                replace kr := kr.up hb2
                clear hb2
                go_wp2_with fail
                refine call_then (hC2.out _) ?_
                intro w2 hb2
                replace hb := below_next hb hb.size hb2
                replace kr := kr.up hb2
                clear hb2
                go_wp2_with fail
                refine call_then (hBx.out _) ?_
                intro w2 hb2
                replace hb := below_next hb hb.size hb2
                replace kr := kr.up hb2
                clear hb2
                go_wp2_with fail
                refine call_then (hBy.out _) ?_
                intro w2 hb2
                replace hb := below_next hb hb.size hb2
                replace kr := kr.up hb2
                clear hb2
                go_wp2
                exact ⟨⟨j + 1, by omega, by go_num, hb, kr⟩, left8 (by assumption)⟩
              | false =>
                simp only [hE, Bool.false_or, Bool.and_false, Bool.true_or, Bool.false_eq_true, if_false, if_true] at hS hC hC2 hbb
                replace hS := Lib.hid hS
                replace hC := Lib.hid hC
                replace hC2 := Lib.hid hC2
                go_wp2_with fail
                refine call_then (hC.out _) ?_
                intro w2 hb2
                replace hb := below_next hb hb.size hb2
                replace kr := kr.up hb2
                clear hb2
                go_wp2_with fail
                refine call_then (hS.out _) ?_
                intro w2 hb2
                replace hb := below_next hb hb.size hb2
                replace kr := kr.up hb2
                clear hb2
                go_wp2_with fail
                refine call_then (hC2.out _) ?_
                intro w2 hb2
                replace hb := below_next hb hb.size hb2
                replace kr := kr.up hb2
                clear hb2
                go_wp2_with fail
                refine call_then (hBx.out _) ?_
                intro w2 hb2
                replace hb := below_next hb hb.size hb2
                replace kr := kr.up hb2
                clear hb2
                go_wp2_with fail
                refine call_then (hBy.out _) ?_
                intro w2 hb2
                replace hb := below_next hb hb.size hb2
                replace kr := kr.up hb2
                clear hb2
                go_wp2
                exact ⟨⟨j + 1, by omega, by go_num, hb, kr⟩, left8 (by assumption)⟩
            | false =>
              cases hL : (FloatKind.f64.format.order x y == some .lt) with
              | true =>
                simp only [hE, hL, Bool.false_or, Bool.false_and, Bool.false_eq_true, if_false, if_true] at hS hC hC2 hbb
                replace hS := Lib.hid hS
                replace hC := Lib.hid hC
                replace hC2 := Lib.hid hC2
                clear n2e
                go_wp2_with fail
                refine call_then (hC.out _) ?_
                intro w2 hb2
                replace hb := below_next hb hb.size hb2
                replace kr := kr.up hb2
                clear hb2
                go_wp2_with fail
                refine call_then (hS.out _) ?_
                intro w2 hb2
                replace hb := below_next hb hb.size hb2
                replace kr := kr.up hb2
                clear hb2
                go_wp2_with fail
                refine call_then (hC2.out _) ?_
                intro w2 hb2
                replace hb := below_next hb hb.size hb2
                replace kr := kr.up hb2
                clear hb2
                go_wp2_with fail
                refine call_then (hBx.out _) ?_
                intro w2 hb2
                replace hb := below_next hb hb.size hb2
                replace kr := kr.up hb2
                clear hb2
                go_wp2_with fail
                refine call_then (hBy.out _) ?_
                intro w2 hb2
                replace hb := below_next hb hb.size hb2
                replace kr := kr.up hb2
                clear hb2
                go_wp2
                exact ⟨⟨j + 1, by omega, by go_num, hb, kr⟩, left8 (by assumption)⟩
              | false =>
                simp only [hE, hL, Bool.false_or, Bool.false_and, Bool.false_eq_true, if_false] at hS hC hC2 hbb
                replace hS := Lib.hid hS
                replace hC := Lib.hid hC
                replace hC2 := Lib.hid hC2
                clear n2e
                go_wp2_with fail
                refine call_then (hC.out _) ?_
                intro w2 hb2
                replace hb := below_next hb hb.size hb2
                replace kr := kr.up hb2
                clear hb2
                go_wp2_with fail
                refine call_then (hS.out _) ?_
                intro w2 hb2
                replace hb := below_next hb hb.size hb2
                replace kr := kr.up hb2
                clear hb2
                go_wp2_with fail
                refine call_then (hC2.out _) ?_
                intro w2 hb2
                replace hb := below_next hb hb.size hb2
                replace kr := kr.up hb2
                clear hb2
                go_wp2_with fail
                refine call_then (hBx.out _) ?_
                intro w2 hb2
                replace hb := below_next hb hb.size hb2
                replace kr := kr.up hb2
                clear hb2
                go_wp2_with fail
                refine call_then (hBy.out _) ?_
                intro w2 hb2
                replace hb := below_next hb hb.size hb2
                replace kr := kr.up hb2
                clear hb2
                go_wp2
                exact ⟨⟨j + 1, by omega, by go_num, hb, kr⟩, left8 (by assumption)⟩
        · obtain rfl : j = 8 := by omega
          clear hjl hj
          have hBx := qbits_any x
          have n1e : (FloatKind.f64.format.order x x == some .eq) = !isNan x := by unfold isNan; cases h : (od x x == some .eq) <;> simp_all [od]
          cases hN : isNan x with
          | true =>
            rw [hN] at n1e
            clear hBx
            go_wp2
            exact ⟨⟨k + 1, by omega, by go_num, hb, kr⟩, left8 (by assumption)⟩
          | false =>
            rw [hN] at n1e
            cases hZ : (FloatKind.f64.format.order x 0 != some .eq) with
            | false =>
              clear hBx
              go_wp2
              exact ⟨⟨k + 1, by omega, by go_num, hb, kr⟩, left8 (by assumption)⟩
            | true =>
              have hbx : bitsF x = x := by
                unfold bitsF unsig
                rw [hN]
                have : (od x 0 == some .eq) = false := by
                  have h2 : (od x 0 != some .eq) = true := hZ
                  simpa using h2
                rw [this]
                rfl
              rw [hbx] at hBx
              replace hBx := Lib.hid hBx
              go_wp2_with fail
              refine call_then (hBx.out _) ?_
              intro w2 hb2
              replace hb := below_next hb hb.size hb2
              replace kr := kr.up hb2
              clear hb2
              go_wp2
              exact ⟨⟨k + 1, by omega, by go_num, hb, kr⟩, left8 (by assumption)⟩
    · obtain rfl : k = 8 := by omega
      clear hlt hk
      have hlast := qbits_any 9223372036854775808
      rw [show bitsF 9223372036854775808 = 0 by decide +kernel] at hlast
      replace hlast := Lib.hid hlast
      go_wp2_with fail
      refine call_then (copysign_zero _) ?_
      intro w7 hb2
      replace hb := below_next hb hb.size hb2
      clear hb2
      go_wp2_with fail
      refine call_then (hlast.out _) ?_
      intro w8 hb2
      replace hb := below_next hb hb.size hb2
      clear hb2
      go_wp2
      go_ret
      exact ⟨rfl, hb⟩
theorem wf_u64 {a : Int} (h : (Lit.int .u64 a).wf = true) : 0 ≤ a ∧ a < 18446744073709551616 := by
  simp [Lit.wf, IntKind.min, IntKind.max, IntKind.signed, IntKind.bits] at h
  omega
theorem wf_float {b : Nat} (h : (Lit.float .f64 b).wf = true) : b < 18446744073709551616 := of_decide_eq_true h
theorem own_quantOrder : ownKnob Try.prog.godebug = none := by kernel_rfl
set_option maxRecDepth 100000 in
theorem lifted_quantOrder (os : Os) (started : os.Started) (H : Type) (enc : TypeId × Value → H) :
    ReturnsInHanded {} Try.checked os 6 .any (Rows.quantOrderSpec.pre6 enc Try.prog Try.f6 Rows.quantOrderRow.domain false) (Rows.quantOrderSpec.post enc Try.prog Try.f6 false true false false) := by
  refine returnsInHanded_of_change (C := Try.checked) own_quantOrder started (by kernel_rfl) Try.func6
    (ChangeSpec.witness6 (enc := enc) (C := Try.checked) false ⟨#[], #[.float .f64 0, .float .f64 0, .int .u64 0], []⟩ 8 (by kernel_rfl) (by kernel_rfl) (by kernel_rfl) (by kernel_rfl)) ?_
  intro W base args ds gs before hval0 hW hcnd _
  have hval : ∀ (j : Nat) t v, Try.f6.params[j]? = some t → args[j]? = some v → Value.okWide Try.prog W .any base t v := hval0
  have hW' := hW
  obtain ⟨p, q, hA0, hV, rfl, hfz, hnd⟩ := hW
  have hA : DataW.TrodAll enc Try.prog W 0 (fun _ => true) true Try.f6.params.toList args.toList ds p := hA0
  rw [Try.params6] at hA hval
  clear hA0 hval0
  obtain ⟨v0, vs0, d0, ds0, p0, q0, hargs, rfl, rfl, h0, r0⟩ := trodAll_cons hA
  obtain ⟨v1, vs1, d1, ds1, p1, q1, rfl, rfl, rfl, h1, r1⟩ := trodAll_cons r0
  obtain ⟨v2, vs2, d2, ds2, p2, q2, rfl, rfl, rfl, h2, r2⟩ := trodAll_cons r1
  obtain ⟨rfl, rfl, rfl⟩ := trodAll_nil r2
  obtain rfl : args = #[v0, v1, v2] := by cases args; simp_all
  obtain ⟨rfl, rfl⟩ := trodVars_none hV
  obtain ⟨b0, rfl, _, _, g0⟩ := open_float (k := .f64) (t := 27) (by kernel_rfl) (hval 0 27 v0 rfl rfl) h0
  obtain ⟨b1, rfl, _, _, g1⟩ := open_float (k := .f64) (t := 27) (by kernel_rfl) (hval 1 27 v1 rfl rfl) h1
  obtain ⟨n2, rfl, _, _, g2⟩ := open_int (k := .u64) (t := 51) (by kernel_rfl) (hval 2 51 v2 rfl rfl) h2
  refine (quantOrder_walk b0 b1 n2 (wf_float g0) (wf_float g1) (wf_u64 g2).1 (wf_u64 g2).2 W).mono fun e W' ⟨he, hb⟩ => ?_
  subst he
  exact ⟨_, rfl, law_true (by decide +kernel) rfl rfl Try.underlying4 hW' rfl hb⟩
theorem over_quantOrder : Rows.quantOrderRow.holds Try.pinned (OpenSpec.ofChange Rows.quantOrderSpec) :=
  OpenClaim.holds_of_wide 6 Try.f6 rfl rfl rfl rfl rfl rfl rfl ⟨rfl, rfl, rfl, rfl, rfl⟩ rfl rfl rfl rfl rfl (by kernel_rfl) Try.func6 (by kernel_rfl)
    (of_decide_eq_true (by kernel_rfl)) (by unfold Func.isWrapper; first | (rw [if_pos (by decide +kernel)]; kernel_rfl) | (rw [if_neg (by decide +kernel)]; exact ⟨rfl, rfl⟩))
    (fun os started H enc _ => lifted_quantOrder os started H enc)
theorem quantOrder_proved : Rows.QuantOrderSaid := over_quantOrder
#print axioms quantOrder_proved
end Go.Proofs.Ytgmmdhefcijgeaa
