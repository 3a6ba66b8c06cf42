/-
  Bits turned round; lengths that are powers of two.
-/
import Derived.Test.YtnlnbikiocdpdaaDoorNtA
namespace Go.Proofs.YtnlnbikiocdpdaaDoor
open Go.RowKit F Flow
set_option linter.unusedVariables false
set_option linter.unusedSimpArgs false

/-- Halves of groups of bits change places. -/
def stp (d m x : Int) : Int := bits .or .u64 (bits .and .u64 (x / d) m) (IntKind.u64.wrap (bits .and .u64 x m * d))
def rbs (x : Int) : Int := bits .or .u64 (stp 65536 281470681808895 (stp 256 71777214294589695 x) / 4294967296) (IntKind.u64.wrap (stp 65536 281470681808895 (stp 256 71777214294589695 x) * 4294967296))
def rvs (x : Int) : Int := rbs (stp 16 1085102592571150095 (stp 4 3689348814741910323 (stp 2 6148914691236517205 x)))
theorem rb64_any (x : Int) (w : World) : Calls Tryd.prog 53 #[.int .u64 x] w fun e w' => e = .returned (.int .u64 (rbs x)) ∧ Below w.heap.size w w' := by
  go_enter Tryd.func53, Tryd.ntmps53
  go_wp2
  go_ret
  exact ⟨rfl, Below.refl _ _⟩
theorem rv64_any (x : Int) (w : World) : Calls Tryd.prog 36 #[.int .u64 x] w fun e w' => e = .returned (.int .u64 (rvs x)) ∧ Below w.heap.size w w' := by
  have h := Lib.hid (rb64_any (stp 16 1085102592571150095 (stp 4 3689348814741910323 (stp 2 6148914691236517205 x))))
  go_enter Tryd.func36, Tryd.ntmps36
  go_wp2_with fail
  refine call_then (h.out _) ?_
  intro w1 hb
  go_wp2
  go_ret
  exact ⟨rfl, hb⟩
/-- Where element i of 2^k goes. -/
def plc (k i : Nat) : Nat := (rvs (i : Int) / 2 / 2 ^ (63 - k)).toNat
/-- The bits of a number below 2^s, turned round. -/
def rho : Nat → Nat → Nat
  | 0, _ => 0
  | s + 1, b => rho s (b / 2) + b % 2 * 2 ^ s
set_option maxRecDepth 100000 in
theorem plc_all : ∀ k : Fin 11, ∀ i : Fin (2 ^ k.val), plc k.val i.val < 2 ^ k.val ∧ rho k.val (plc k.val i.val) = i.val ∧ (0 ≤ rvs (i.val : Int) ∧ rvs (i.val : Int) < 18446744073709551616) := by decide +kernel
set_option maxRecDepth 100000 in
theorem rho_all : ∀ k : Fin 11, ∀ p : Fin (2 ^ k.val), rho k.val p.val < 2 ^ k.val ∧ plc k.val (rho k.val p.val) = p.val := by decide +kernel
theorem pow_all : ∀ m : Fin 1025, 1 ≤ m.val → (∃ k : Fin 11, m.val = 2 ^ k.val) ∨ bits .and .i64 (m.val : Int) ((m.val : Int) - 1) ≠ 0 := by decide +kernel
theorem pow_and : ∀ k : Fin 11, bits .and .i64 ((2 ^ k.val : Nat) : Int) (((2 ^ k.val : Nat) : Int) - 1) = 0 := by decide +kernel
end Go.Proofs.YtnlnbikiocdpdaaDoor
