/-
  A slice of numbers with a fraction as an argument: opened.
-/
import Derived.Test.YtnaakklfbegldaaStH
import Derived.Test.YtnaakklfbegldaaFrame
import Derived.Deep.Slices
import Derived.Laws.Cover2
import Derived.Deep.MidRow
namespace Go.Proofs.Ytnaakklfbegldaa
open Go.RowKit Go.WideShapes Go.ChangeShapes Flow
set_option linter.unusedVariables false
theorem cells_f64' : (Try.prog).cellsOf 35 = 1 := by kernel_rfl
theorem trod_float_cells {H : Type} {enc : TypeId × Value → H} {P : Program} {w : World} {base : Nat} {spare : Nat → Bool} {held : Bool} {fuel : Nat} {t : TypeId} {k : FloatKind} {cs : List Value} {x : DataW H × List MemPlace}
    (ht : P.underlying t = some (.float k)) (h : DataW.trod enc P w base spare held fuel t cs = some x) : ∃ n, cs = [.float k n] ∧ (Lit.float k n).wf = true := by
  cases fuel with
  | zero => simp [DataW.trod] at h
  | succ n =>
    unfold DataW.trod at h
    rw [ht] at h
    split at h <;> simp_all
set_option maxRecDepth 20000 in
theorem open_argfloats {H : Type} {enc : TypeId × Value → H} {w : World} {base : Nat} {spare : Nat → Bool} {held : Bool} {v : Value} {d : DataW H} {p : List MemPlace} {r : Reach} {b0 : Nat}
    (hv : Value.okWide Try.prog w r b0 27 v) (h : DataW.Trod enc Try.prog w base spare held 27 v d p) :
    ∃ (A : Option Addr) (l : List Nat) (c : Nat), v = .slice A l.length c ∧ l.length ≤ c ∧ c ≤ maxLen ∧ FloatsAt w A l ∧ (∀ x, x ∈ l → x < 18446744073709551616) ∧ ((A = none ∧ c = 0) ∨ (∃ b o, A = some ⟨b, o, none⟩) ∨ ∃ a, A = some a ∧ l = []) := by
  obtain ⟨a0, len0, cap0, rfl⟩ := okWide_slice Try.underlying27 hv
  obtain ⟨fuel, h⟩ := h
  rcases Go.Deep.open_slice Try.underlying27 h with ⟨hc, _⟩ | ⟨a, len, cap, m, n, D, Pl, hcs, hb, hl, hm, hmm, hx, hel⟩
  · have hv : Value.slice a0 len0 cap0 = .slice none 0 0 := by simpa [Value.cells] using hc
    rw [hv]
    exact ⟨none, [], 0, rfl, Nat.le_refl _, Nat.zero_le _, fun k hk => absurd hk (by simp), fun x hx => (by cases hx), .inl ⟨rfl, rfl⟩⟩
  · have hv : Value.slice a0 len0 cap0 = .slice (some a) len cap := by simpa [Value.cells] using hcs
    rw [hv]
    have hlm : len ≤ m := by rw [hmm]; split <;> omega
    have key : ∀ i, i < len → ∃ x : Nat, x < 18446744073709551616 ∧ w.cell? (a.add i) = some (.float .f64 x) := by
      intro i hil
      obtain ⟨cs', hc, ht⟩ := hel i (by omega)
      rw [cells_f64'] at hc
      obtain ⟨x0, e0, w0⟩ := trod_float_cells (k := .f64) Try.underlying35 ht
      subst e0
      obtain ⟨_, _, hat⟩ := World.cells?_some hc
      have g0 := hat 0 (by omega)
      rw [Go.Deep.add_add, Nat.mul_one, Nat.add_zero] at g0
      refine ⟨x0, ?_, g0⟩
      exact of_decide_eq_true w0
    obtain ⟨f, hf⟩ := Go.Deep.choose_lt key
    have hget : ∀ k, k < len → ((List.range len).map f).getD k 0 = f k := fun k hk => by simp [List.getD_eq_getElem?_getD, hk]
    by_cases h0 : 0 < len
    · obtain ⟨b, off, spot⟩ := a
      have hspot : spot = none := by simpa [Addr.add] using World.cell?_spot (hf 0 h0).2
      subst hspot
      refine ⟨_, (List.range len).map f, cap, by simp, by simpa using hl, hm, fun k hk => ?_, fun x hx => ?_, .inr (.inl ⟨b, off, rfl⟩)⟩
      · have hk' : k < len := by simpa using hk
        refine ⟨b, off, rfl, ?_⟩
        have := (hf k hk').2
        rw [Addr.add_mid] at this
        rw [hget k hk']
        exact this
      · obtain ⟨i, him, rfl⟩ := List.mem_map.1 hx
        exact (hf i (List.mem_range.1 him)).1
    · obtain rfl : len = 0 := by omega
      exact ⟨some a, [], cap, rfl, by simp, hm, fun k hk => absurd hk (by simp), fun x hx => (by cases hx), .inr (.inr ⟨a, rfl, rfl⟩)⟩
end Go.Proofs.Ytnaakklfbegldaa
