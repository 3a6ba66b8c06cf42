/-
  Contracts of package field: powers of an element.
-/
import Derived.Test.YtailpfbdanhpmaaFieldEach
namespace Go.Proofs.Ytailpfbdanhpmaa
open Go.RowKit F Flow
set_option linter.unusedVariables false
attribute [local go_sem] eql_elem

/-- a to a number, by multiplying. -/
def power (op : Int → Int → Int) (a : Int) : Nat → Int
  | 0 => 1
  | n + 1 => op (power op a n) a
/-- 1, a, and so on. -/
def powers (op : Int → Int → Int) (a : Int) (n : Nat) : List Int := (List.range n).map (power op a)
theorem powers_length (op : Int → Int → Int) (a : Int) (n : Nat) : (powers op a n).length = n := by simp [powers]
theorem powers_at (op : Int → Int → Int) (a : Int) {n k : Nat} (h : k < n) : (powers op a n).getD k 0 = power op a k := by simp [powers, h]
theorem power_ok {op : Int → Int → Int} {a : Int} (h : ∀ x, 0 ≤ x → x < 340282366920938463463374607431768211456 → 0 ≤ op x a ∧ op x a < 340282366920938463463374607431768211456) : ∀ k, 0 ≤ power op a k ∧ power op a k < 340282366920938463463374607431768211456
  | 0 => by unfold power; decide
  | k + 1 => by have := power_ok h k; exact h _ this.1 this.2
/-- Each field's operations, as calls. -/
theorem opBy_add1 : OpBy 20 1 (add 1) := fun a b _ _ _ _ => ⟨by have := add_bound 1 a b; rw [M1] at this; omega, fadd_one a b⟩
theorem opBy_add2 : OpBy 20 2 (add 2) := fun a b a0 a1 b0 b1 => ⟨by have := add_bound 2 a b; rw [M2] at this; omega, fadd_two a b a0 a1 b0 b1⟩
theorem opBy_mul1 : OpBy 21 1 (mul 1) := fun a b _ _ _ _ => ⟨by have := mul_bound 1 a b; rw [M1] at this; omega, fmul_one a b⟩
theorem opBy_mul2 : OpBy 21 2 (mul 2) := fun a b a0 a1 b0 b1 => ⟨by have := mul_bound 2 a b; rw [M2] at this; omega, fmul_two a b a0 a1 b0 b1⟩
/-- Slices that came in, in whatever world has new memory beside. -/
def Came (w : World) (A : Option Addr) (xs : List Int) (k : Nat) (b o : Nat) : Prop :=
  A = some ⟨b, o, none⟩ ∧ ∀ v, Below w.heap.size w v → v.cell? ⟨b, o + k * 2, none⟩ = some (.int .u64 (lo (xs.getD k 0))) ∧ v.cell? ⟨b, o + k * 2 + 1, none⟩ = some (.int .u64 (hi (xs.getD k 0)))
theorem ElemsAt.came {w : World} {A : Option Addr} {xs : List Int} (h : ElemsAt w A xs) {k : Nat} (hk : k < xs.length) : ∃ b o, Came w A xs k b o := by
  obtain ⟨b, o, e, h1, h2⟩ := h k hk
  exact ⟨b, o, e, fun v hv => ⟨(hv.cell (World.block_lt_of_cell? _ _ h1)).trans h1, (hv.cell (World.block_lt_of_cell? _ _ h2)).trans h2⟩⟩
end Go.Proofs.Ytailpfbdanhpmaa
