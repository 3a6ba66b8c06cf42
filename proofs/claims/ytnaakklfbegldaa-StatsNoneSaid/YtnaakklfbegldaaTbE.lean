/-
  StatsNone, proved: a nil table; what was handed in, or answered, is changed behind it: for any row and any place, with no condition.
-/
import Derived.Test.YtnaakklfbegldaaTbD
import Derived.Test.YtnaakklfbegldaaFrame
import Derived.Test.YtnaakklfbegldaaPost
import Derived.WalkKit
import Derived.ProofKit
import Derived.OpenShut
import Derived.Deep.Slices
import Derived.Laws.Cover2
namespace Go.Proofs.Ytnaakklfbegldaa
open Go.RowKit Go.WideShapes Go.ChangeShapes Flow
set_option linter.unusedVariables false
set_option maxRecDepth 100000 in
theorem open_row {H : Type} {enc : TypeId × Value → H} {w : World} {base : Nat} {spare : Nat → Bool} {held : Bool} {r : Reach} {b0 : Nat} {v : Value} {d : DataW H} {p : List MemPlace}
    (hv : Value.okWide Try.prog w r b0 29 v) (h : DataW.Trod enc Try.prog w base spare held 29 v d p) : ∃ (t m : Int) (A : Option Addr) (n c : Nat), v = .agg #[.int .u64 t, .int .i64 m, .slice A n c] := by
  obtain ⟨⟨cs⟩, rfl, _⟩ := okWide_struct Try.underlying29 hv
  obtain ⟨fuel, hf⟩ := h
  obtain ⟨ys, n, _, _, hl, hyl, hf⟩ := DataW.trod_struct Try.underlying29 hf
  rw [show (Try.prog).cellsOf 29 = 3 by kernel_rfl] at hl
  have hcs : (Value.agg cs.toArray).cells.toList = cs := rfl
  try simp only [hcs] at hl hf
  have hyl : ys.length = 3 := hyl
  have g0 : DataW.trod enc Try.prog w base spare held n 26 ((cs.drop 0).take ((Try.prog).cellsOf 26)) = ys[0]? := hf 0 _ rfl
  have g1 : DataW.trod enc Try.prog w base spare held n 3 ((cs.drop 1).take ((Try.prog).cellsOf 3)) = ys[1]? := hf 1 _ rfl
  have g2 : DataW.trod enc Try.prog w base spare held n 27 ((cs.drop 2).take ((Try.prog).cellsOf 27)) = ys[2]? := hf 2 _ rfl
  match cs, hl with
  | [x0, x1, x2], _ =>
    rw [show (Try.prog).cellsOf 26 = 1 by kernel_rfl, List.getElem?_eq_getElem (by omega)] at g0
    rw [show (Try.prog).cellsOf 3 = 1 by kernel_rfl, List.getElem?_eq_getElem (by omega)] at g1
    rw [show (Try.prog).cellsOf 27 = 1 by kernel_rfl, List.getElem?_eq_getElem (by omega)] at g2
    obtain ⟨t, e1, _, _⟩ := DataW.trod_int Try.underlying26 g0
    obtain ⟨m, e2, _, _⟩ := DataW.trod_int Try.underlying3 g1
    simp only [List.drop_zero, List.drop_succ_cons, List.take_succ_cons, List.take_zero, List.cons.injEq, and_true] at e1 e2
    subst e1 e2
    rcases Go.Deep.open_slice Try.underlying27 g2 with ⟨hc, _⟩ | ⟨a, len, cap, m', n', D, Pl, hcs, _⟩
    · simp only [List.drop_zero, List.drop_succ_cons, List.take_succ_cons, List.take_zero, List.cons.injEq, and_true] at hc
      exact ⟨t, m, none, 0, 0, by rw [hc]⟩
    · simp only [List.drop_zero, List.drop_succ_cons, List.take_succ_cons, List.take_zero, List.cons.injEq, and_true] at hcs
      exact ⟨t, m, some a, len, cap, by rw [hcs]⟩
theorem own_statsNone : ownKnob Try.prog.godebug = none := by kernel_rfl
set_option maxRecDepth 100000 in
theorem lifted_statsNone (os : Os) (started : os.Started) (H : Type) (enc : TypeId × Value → H) :
    ReturnsInHanded {} Try.checked os 7 .any (Rows.statsNoneSpec.pre6 enc Try.prog Try.f7 Rows.statsNoneRow.domain false) (Rows.statsNoneSpec.post enc Try.prog Try.f7 false true false false) := by
  refine returnsInHanded_of_change (C := Try.checked) own_statsNone started (by kernel_rfl) Try.func7
    (ChangeSpec.witness6 (enc := enc) (C := Try.checked) false ⟨#[], #[.agg #[.int .u64 0, .int .i64 0, .slice none 0 0], .int .i64 0], []⟩ 8 (by kernel_rfl) (by kernel_rfl) (by kernel_rfl) (by kernel_rfl)) ?_
  intro W base args ds gs before hval0 hW hcnd _
  have hval : ∀ (j : Nat) t v, Try.f7.params[j]? = some t → args[j]? = some v → Value.okWide Try.prog W .any base t v := hval0
  have hW' := hW
  obtain ⟨p, q, hA0, hV, rfl, hfz, hnd⟩ := hW
  have hA : DataW.TrodAll enc Try.prog W 0 (fun _ => true) true Try.f7.params.toList args.toList ds p := hA0
  rw [Try.params7] at hA hval
  clear hA0 hval0
  obtain ⟨v0, vs0, d0, ds0, p0, q0, hargs, rfl, rfl, h0, r0⟩ := trodAll_cons hA
  obtain ⟨v1, vs1, d1, ds1, p1, q1, rfl, rfl, rfl, h1, r1⟩ := trodAll_cons r0
  obtain ⟨rfl, rfl, rfl⟩ := trodAll_nil r1
  obtain rfl : args = #[v0, v1] := by cases args; simp_all
  obtain ⟨rfl, rfl⟩ := trodVars_none hV
  obtain ⟨t, m, A, n, c, rfl⟩ := open_row (hval 0 29 v0 rfl rfl) h0
  obtain ⟨a1, rfl, _, _, w1⟩ := open_int Try.underlying3 (hval 1 3 v1 rfl rfl) h1
  refine (statsNone_walk t m A n c a1 W).mono fun e W' ⟨he, hb⟩ => ?_
  subst he
  exact ⟨_, rfl, law_true (by decide +kernel) rfl rfl Try.underlying4 hW' rfl hb⟩
theorem over_statsNone : Rows.statsNoneRow.holds Try.pinned (OpenSpec.ofChange Rows.statsNoneSpec) :=
  OpenClaim.holds_of_wide 7 Try.f7 rfl rfl rfl rfl rfl rfl rfl ⟨rfl, rfl, rfl, rfl, rfl⟩ rfl rfl rfl rfl rfl (by kernel_rfl) Try.func7 (by kernel_rfl)
    (of_decide_eq_true (by kernel_rfl)) (by unfold Func.isWrapper; first | (rw [if_pos (by decide +kernel)]; kernel_rfl) | (rw [if_neg (by decide +kernel)]; exact ⟨rfl, rfl⟩))
    (fun os started H enc _ => lifted_statsNone os started H enc)
theorem statsNone_proved : Rows.StatsNoneSaid := over_statsNone
#print axioms statsNone_proved
end Go.Proofs.Ytnaakklfbegldaa
