import Derived.Test.YtpojhomccmfffaaDoorBK
/-
  A round, as it is meant.
-/
namespace Go.Proofs.YtpojhomccmfffaaDoor
open Go.RowKit Flow
set_option linter.unusedVariables false
set_option linter.unusedSimpArgs false

def zero : Nat → Nat := fun _ => 0
theorem res_cell1 {P : Program} {fn : Func} {tmps : Array Value} {w : World} {a : Nat} {t : TypeId} {b : Nat} {v : Value} (hr : fn.results = #[.cell a t]) (ha : tmps.getD a undef = .pointer (some ⟨b, 0, none⟩))
    (h : (loadVar t ⟨b, 0, none⟩).run P w = .ok v w) : (results fn tmps).run P w = .ok v w := by
  rw [Array.getD_eq_getD_getElem?] at ha
  simp [results, hr, asAddr, ha, h]
theorem bR_lim {a : Nat → Nat} (h : Lim a) : ∀ t, Lim (bR a t)
  | 0 => h
  | t + 1 => upd_lim (bR_lim h t) (rl_lt _ _ (by omega) (h _ (by have := way_lt t; omega)))
theorem mR_lim {b : Nat → Nat} (h : Lim b) : ∀ j, j ≤ 25 → Lim (mR b j)
  | 0, _ => fun i _ => by simp [mR]
  | j + 1, hj => upd_lim (mR_lim h j (by omega)) (h j (by omega))
theorem oR_lim {m : Nat → Nat} (h : Lim m) : ∀ j, j ≤ 25 → Lim (oR m j)
  | 0, _ => fun i _ => by simp [oR]
  | j + 1, hj => upd_lim (oR_lim h j (by omega)) (xor_lim (h j (by omega)) (an_lim (h _ (by omega))))
theorem wrap_nat {z : Int} {n : Nat} (h : z = (n : Int)) (hn : n < 9223372036854775808) : IntKind.i64.wrap z = (n : Int) := by
  subst h
  simp only [IntKind.wrap_i64]
  omega
theorem tr_lt {x y : Nat} (hx : x < 5) (hy : y < 5) : tr (5 * x + y) = x + 5 * y ∧ x + 5 * y < 25 ∧ 5 * x + y < 25 := by unfold tr; omega
theorem aR_lim {a : Nat → Nat} (h : Lim a) : Lim (aR a) ∧ ∀ x, x < 5 → cR a x < 18446744073709551616 := by
  have hc : ∀ x, x < 5 → cR a x < 18446744073709551616 := fun x hx => xor_lim (xor_lim (xor_lim (xor_lim (h _ (by omega)) (h _ (by omega))) (h _ (by omega))) (h _ (by omega))) (h _ (by omega))
  exact ⟨fun i hi => xor_lim (xor_lim (h i hi) (hc _ (by omega))) (rl_lt _ _ (by decide) (hc _ (by omega))), hc⟩
end Go.Proofs.YtpojhomccmfffaaDoor

/-
  All rounds, as they are meant.
-/
namespace Go.Proofs.YtpojhomccmfffaaDoor
open Go.RowKit Flow
set_option linter.unusedVariables false
set_option linter.unusedSimpArgs false

end Go.Proofs.YtpojhomccmfffaaDoor
