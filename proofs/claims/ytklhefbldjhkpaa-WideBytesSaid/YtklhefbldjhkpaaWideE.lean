/-
  What all laws of layer 2 lean on.
-/
import Derived.Test.YtklhefbldjhkpaaWideD
import Derived.Test.YtklhefbldjhkpaaPost
import Derived.Test.YtklhefbldjhkpaaArr
namespace Go.Proofs.Ytklhefbldjhkpaa
open Go.ChangeShapes Go.WideShapes Go.ChangeAt Go.RowKit F Flow
set_option linter.unusedVariables false
attribute [local go_sem] eql_elem

theorem wf_u64 {a : Int} (h : (Lit.int .u64 a).wf = true) : 0 ≤ a ∧ a < 18446744073709551616 := by
  have : 0 ≤ a ∧ a ≤ 18446744073709551615 := by simpa [Lit.wf, IntKind.min, IntKind.max, IntKind.signed, IntKind.bits] using h
  omega
theorem cells_elem : (Try.prog).cellsOf 24 = 2 := by kernel_rfl
theorem cells_u64 : (Try.prog).cellsOf 22 = 1 := by kernel_rfl
theorem open_elem {H : Type} {enc : TypeId × Value → H} {w : World} {base : Nat} {spare : Nat → Bool} {held : Bool} {r : Reach} {b0 : Nat} {v : Value} {d : DataW H} {p : List MemPlace}
    (hv : Value.okWide Try.prog w r b0 24 v) (h : DataW.Trod enc Try.prog w base spare held 24 v d p) :
    ∃ x : Int, 0 ≤ x ∧ x < 340282366920938463463374607431768211456 ∧ v = .agg #[.int .u64 (lo x), .int .u64 (hi x)] ∧ d = .agg [.lit (.int .u64 (lo x)), .lit (.int .u64 (hi x))] ∧ p = [] := by
  obtain ⟨zs, hn, rfl, rfl, rfl, hw⟩ := open_int_array Try.underlying24 Try.underlying22 cells_u64 cells_elem hv h
  obtain ⟨a, b, rfl⟩ : ∃ a b, zs = [a, b] := by
    match zs, hn with
    | [a, b], _ => exact ⟨a, b, rfl⟩
  obtain ⟨a0, a1⟩ := wf_u64 (hw a (by simp))
  obtain ⟨b0, b1⟩ := wf_u64 (hw b (by simp))
  refine ⟨val a b, by unfold val; omega, by unfold val; omega, ?_⟩
  rw [lo_val a0 a1, hi_val a0 a1]
  exact ⟨rfl, rfl, rfl⟩
theorem shut_elem {H : Type} {enc : TypeId × Value → H} {w : World} {base : Nat} {spare : Nat → Bool} {held : Bool} {x : Int} (h0 : 0 ≤ x) (h1 : x < 340282366920938463463374607431768211456) :
    DataW.Trod enc Try.prog w base spare held 24 (.agg #[.int .u64 (lo x), .int .u64 (hi x)]) (.agg [.lit (.int .u64 (lo x)), .lit (.int .u64 (hi x))]) [] :=
  shut_int_array (zs := [lo x, hi x]) Try.underlying24 Try.underlying22 cells_u64 cells_elem rfl (fun z hz => by
    have a0 := lo_nonneg x
    have a1 := lo_lt x
    have b0 := hi_nonneg h0
    have b1 := hi_lt h1
    have hz' : z = lo x ∨ z = hi x := by simpa using hz
    rcases hz' with rfl | rfl <;> simp [Lit.wf, IntKind.min, IntKind.max, IntKind.signed, IntKind.bits] <;> omega)

theorem wawake_any (w : World) : Calls Try.prog 8 #[] w fun e w' => e = .returned (.bool true) ∧ Below w.heap.size w w' := by
  have hb := Below.refl w.heap.size w
  have h := wmul_any 170141183460469231731687303715884105728 2 (by omega) (by omega) (by omega) (by omega)
  rw [show mul 2 170141183460469231731687303715884105728 2 = 516508834063867445247 from by decide] at h
  have e1 : lo 170141183460469231731687303715884105728 = 0 := by decide
  have e2 : hi 170141183460469231731687303715884105728 = 9223372036854775808 := by decide
  have e3 : lo 2 = 2 := by decide
  have e4 : hi 2 = 0 := by decide
  have e5 : lo 516508834063867445247 = 18446744073709551615 := by decide
  have e6 : hi 516508834063867445247 = 27 := by decide
  rw [e1, e2, e3, e4, e5, e6] at h
  clear e1 e2 e3 e4 e5 e6
  replace h := Lib.hid h
  go_enter Try.func8, Try.ntmps8
  go_wp2_with (first
    | (go_at_call 18; refine call_then (h.out _) ?_; intro wn hwn; replace hb := below_next hb hb.size hwn; clear hwn)
    )
  go_ret
  exact ⟨rfl, hb⟩

theorem add_redu (f x y : Int) : add f (redu f x) (redu f y) = add f x y := by unfold add; rw [redu_redu, redu_redu]
theorem sub_redu (f x y : Int) : sub f (redu f x) (redu f y) = sub f x y := by unfold sub; rw [redu_redu, redu_redu]
theorem mul_redu (f x y : Int) : mul f (redu f x) (redu f y) = mul f x y := by unfold mul; rw [redu_redu, redu_redu]
theorem neg_redu (f x : Int) : neg f (redu f x) = neg f x := by unfold neg; rw [redu_redu]
theorem redu2_bound (a : Int) : 0 ≤ redu 2 a ∧ redu 2 a < 340282366920938463463374607431768211456 := by
  have b0 := redu_nonneg 2 a
  have b1 := redu_lt 2 a
  rw [M2] at b1
  omega
theorem lohi_eq {x y : Int} : (lo x == lo y && hi x == hi y) = (x == y) := by
  rw [Bool.eq_iff_iff]
  simp only [Bool.and_eq_true, beq_iff_eq]
  constructor
  · rintro ⟨h1, h2⟩; rw [← val_lohi x, ← val_lohi y, h1, h2]
  · rintro rfl; exact ⟨rfl, rfl⟩
theorem win_iff {a : Int} (h0 : 0 ≤ a) (h1 : a < 340282366920938463463374607431768211456) : (lo (redu 2 a) == lo a && hi (redu 2 a) == hi a) = decide (a < M 2) := by
  rw [lohi_eq, Bool.eq_iff_iff]
  simp only [beq_iff_eq, decide_eq_true_eq]
  constructor
  · intro h; rw [← h]; exact redu_lt 2 a
  · intro h; exact redu_small (by decide) h0 h

end Go.Proofs.Ytklhefbldjhkpaa
