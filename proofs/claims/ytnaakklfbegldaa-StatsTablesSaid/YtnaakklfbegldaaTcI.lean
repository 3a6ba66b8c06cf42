/-
  Sums of numbers with a fraction, whatever the bits of what is no number.
-/
import Derived.Test.YtnaakklfbegldaaTcH
import Derived.Test.YtnaakklfbegldaaStA
import Derived.Laws.FloatArith
namespace Go.Proofs.Ytnaakklfbegldaa
open Go.RowKit Flow
set_option linter.unusedVariables false
set_option linter.unusedSimpArgs false

abbrev pmul (x y : Nat) : Option Nat := FloatKind.f64.format.mul x y
abbrev padd (x y : Nat) : Option Nat := FloatKind.f64.format.add x y
abbrev pdiv (x y : Nat) : Option Nat := FloatKind.f64.format.div x y
def nanP (x : Nat) : Prop := 9218868437227405312 < x % 9223372036854775808
/-- The same, or both no number. -/
def Sm (a b : Nat) : Prop := a = b ∨ (nanP a ∧ nanP b)
theorem Sm.refl (a : Nat) : Sm a a := .inl rfl
theorem Sm.symm {a b : Nat} (h : Sm a b) : Sm b a := h.imp Eq.symm (fun h => ⟨h.2, h.1⟩)
/-- What an operation answers. -/
def Res (f : Nat → Nat → Option Nat) (a b r : Nat) : Prop := f a b = some r ∨ (f a b = none ∧ nanP r)
def Nans (f : Nat → Nat → Option Nat) : Prop := ∀ a b, nanP a ∨ nanP b → f a b = none
theorem res_sm {f : Nat → Nat → Option Nat} (hf : Nans f) {a a' b b' r r' : Nat} (ha : Sm a a') (hb : Sm b b') (h : Res f a b r) (h' : Res f a' b' r') : Sm r r' := by
  have key : a = a' ∧ b = b' ∨ (f a b = none ∧ f a' b' = none) := by
    rcases ha with rfl | ⟨h1, h2⟩
    · rcases hb with rfl | ⟨h3, h4⟩
      · exact .inl ⟨rfl, rfl⟩
      · exact .inr ⟨hf _ _ (.inr h3), hf _ _ (.inr h4)⟩
    · exact .inr ⟨hf _ _ (.inl h1), hf _ _ (.inl h2)⟩
  rcases key with ⟨rfl, rfl⟩ | ⟨h1, h2⟩
  · rcases h with h | ⟨h, hn⟩
    · rcases h' with h' | ⟨h', _⟩
      · rw [h] at h'
        exact .inl (Option.some.inj h')
      · rw [h] at h'
        cases h'
    · rcases h' with h' | ⟨_, hn'⟩
      · rw [h] at h'
        cases h'
      · exact .inr ⟨hn, hn'⟩
  · rcases h with h | ⟨_, hn⟩
    · rw [h1] at h
      cases h
    · rcases h' with h' | ⟨_, hn'⟩
      · rw [h2] at h'
        cases h'
      · exact .inr ⟨hn, hn'⟩
theorem nans_mul : Nans pmul := fun a b h => by
  show ((Ieee.double.read a).product (Ieee.double.read b)).map Ieee.double.write = none
  rcases h with h | h
  · obtain ⟨s, t, e⟩ := read_nan a h
    rw [e]
    rfl
  · obtain ⟨s, t, e⟩ := read_nan b h
    rw [e]
    cases Ieee.double.read a <;> rfl
theorem nans_add : Nans padd := fun a b h => by
  show ((Ieee.double.read a).sum (Ieee.double.read b)).map Ieee.double.write = none
  rcases h with h | h
  · obtain ⟨s, t, e⟩ := read_nan a h
    rw [e]
    rfl
  · obtain ⟨s, t, e⟩ := read_nan b h
    rw [e]
    cases Ieee.double.read a <;> rfl
theorem cut_nan (n x y : Nat) : nanP (Question.cut (.nanBits .f64 x y) n) := by
  unfold nanP
  simp only [Question.cut]
  have h1 := Nat.mod_lt n (show 0 < 2 by decide)
  have h2 := Nat.mod_lt (n / 2) (show 0 < 2 ^ 52 - 1 by decide)
  generalize n % 2 = u at *
  generalize n / 2 % (2 ^ 52 - 1) = v at *
  omega
theorem run_mulR (a b : Nat) (w : World) : ∃ r w', (binOp .mul 35 (.float .f64 a) (.float .f64 b)).run Try.prog w = .ok (.float .f64 r) w' ∧ Below w.heap.size w w' ∧ Res pmul a b r := by
  cases h : pmul a b with
  | some r => exact ⟨r, w, run_float_arith w .mul _ .f64 a b r h, Below.refl _ _, .inl h⟩
  | none =>
    have h' : FloatKind.f64.format.mul a b = none := h
    exact ⟨Question.cut (.nanBits .f64 a b) (w.tape w.drawn (.nanBits .f64 a b)), w.drew, by simp [binOp, Op.floatArith, h', Question.forced], (Below.refl _ w).drew, .inr ⟨h, cut_nan _ _ _⟩⟩
theorem run_addR (a b : Nat) (w : World) : ∃ r w', (binOp .add 35 (.float .f64 a) (.float .f64 b)).run Try.prog w = .ok (.float .f64 r) w' ∧ Below w.heap.size w w' ∧ Res padd a b r := by
  cases h : padd a b with
  | some r => exact ⟨r, w, run_float_arith w .add _ .f64 a b r h, Below.refl _ _, .inl h⟩
  | none =>
    have h' : FloatKind.f64.format.add a b = none := h
    exact ⟨Question.cut (.nanBits .f64 a b) (w.tape w.drawn (.nanBits .f64 a b)), w.drew, by simp [binOp, Op.floatArith, h', Question.forced], (Below.refl _ w).drew, .inr ⟨h, cut_nan _ _ _⟩⟩
end Go.Proofs.Ytnaakklfbegldaa
