/-
  Contracts of package wide: products: of 256 bits, and folded.
-/
import Derived.Test.YtobannolnjmegaaWideA
import Derived.Test.YtobannolnjmegaaShelf
namespace Go.Proofs.Ytobannolnjmegaa
open Go.RowKit F Flow
set_option linter.unusedVariables false

theorem carry_eq (x y c : Int) : x + y + c = carried x y c * 18446744073709551616 + summed x y c := by unfold carried summed; omega
theorem borrow_eq {x y b : Int} (hx : 0 ≤ x) (hx' : x < 18446744073709551616) (hy : 0 ≤ y) (hy' : y < 18446744073709551616) (hb : 0 ≤ b) (hb' : b ≤ 1) : x - y - b = diff x y b - borrow x y b * 18446744073709551616 := by
  unfold diff borrow; split <;> omega
def mhi (x y : Int) : Int := x * y / 18446744073709551616
def mlo (x y : Int) : Int := x * y % 18446744073709551616
theorem mhl_eq (x y : Int) : x * y = mhi x y * 18446744073709551616 + mlo x y := by unfold mhi mlo; omega
theorem mlo_bound (x y : Int) : 0 ≤ mlo x y ∧ mlo x y < 18446744073709551616 := by unfold mlo; omega
theorem mul_le {x y : Int} (hx : 0 ≤ x) (hx' : x < 18446744073709551616) (hy : 0 ≤ y) (hy' : y < 18446744073709551616) : 0 ≤ x * y ∧ x * y ≤ 18446744073709551615 * 18446744073709551615 :=
  ⟨Int.mul_nonneg hx hy, Int.mul_le_mul (by omega) (by omega) hy (by omega)⟩
theorem mhi_bound {x y : Int} (hx : 0 ≤ x) (hx' : x < 18446744073709551616) (hy : 0 ≤ y) (hy' : y < 18446744073709551616) : 0 ≤ mhi x y ∧ mhi x y ≤ 18446744073709551614 := by
  have h := mul_le hx hx' hy hy'
  unfold mhi
  omega
/-- One place of a product: x times y, what stands there, and what is carried on. -/
def stUp (x y n : Int) : Int := carried (mlo x y) n 0
def stMid (x y n : Int) : Int := summed (mlo x y) n 0
def stLo (x y n c : Int) : Int := summed (stMid x y n) c 0
def stUp2 (x y n c : Int) : Int := carried (stMid x y n) c 0
def stHi (x y n c : Int) : Int := mhi x y + stUp x y n + stUp2 x y n c
theorem st_eq {x y n c : Int} : x * y + n + c = stHi x y n c * 18446744073709551616 + stLo x y n c := by
  have h := mhl_eq x y
  unfold stHi stLo stUp2 stUp stMid carried summed
  omega
theorem stMid_bound (x y n : Int) : 0 ≤ stMid x y n ∧ stMid x y n < 18446744073709551616 := summed_bound _ _ _
theorem stLo_bound (x y n c : Int) : 0 ≤ stLo x y n c ∧ stLo x y n c < 18446744073709551616 := summed_bound _ _ _
theorem st_bound {x y n c : Int} (hx : 0 ≤ x) (hx' : x < 18446744073709551616) (hy : 0 ≤ y) (hy' : y < 18446744073709551616) (hn : 0 ≤ n) (hn' : n < 18446744073709551616) (hc : 0 ≤ c) (hc' : c < 18446744073709551616) :
    0 ≤ stUp x y n ∧ stUp x y n ≤ 1 ∧ 0 ≤ stUp2 x y n c ∧ stUp2 x y n c ≤ 1 ∧ 0 ≤ stHi x y n c ∧ stHi x y n c < 18446744073709551616 := by
  have h1 := mul_le hx hx' hy hy'
  have h2 := @st_eq x y n c
  have h3 := stLo_bound x y n c
  have h4 : 0 ≤ stUp x y n ∧ stUp x y n ≤ 1 := carried_bound (mlo_bound x y).1 (mlo_bound x y).2 hn hn' (by omega) (by omega)
  have h5 : 0 ≤ stUp2 x y n c ∧ stUp2 x y n c ≤ 1 := carried_bound (stMid_bound x y n).1 (stMid_bound x y n).2 hc hc' (by omega) (by omega)
  refine ⟨h4.1, h4.2, h5.1, h5.2, ?_, ?_⟩ <;> omega
theorem idx0 (x y : Int) (w : World) : (Instr.index 38 (.agg #[.int .u64 x, .int .u64 y]) (.int .i64 0)).run Try.prog w = .ok (.int .u64 x) w := by kernel_rfl
theorem idx1 (x y : Int) (w : World) : (Instr.index 38 (.agg #[.int .u64 x, .int .u64 y]) (.int .i64 1)).run Try.prog w = .ok (.int .u64 y) w := by kernel_rfl
attribute [local go_sem] idx0 idx1
def pr0 (a0 a1 b0 b1 : Int) : Int := stLo a0 b0 0 0
def pr1 (a0 a1 b0 b1 : Int) : Int := stLo a1 b0 (stLo a0 b1 0 (stHi a0 b0 0 0)) 0
def pr2 (a0 a1 b0 b1 : Int) : Int := stLo a1 b1 (stHi a0 b1 0 (stHi a0 b0 0 0)) (stHi a1 b0 (stLo a0 b1 0 (stHi a0 b0 0 0)) 0)
def pr3 (a0 a1 b0 b1 : Int) : Int := stHi a1 b1 (stHi a0 b1 0 (stHi a0 b0 0 0)) (stHi a1 b0 (stLo a0 b1 0 (stHi a0 b0 0 0)) 0)
/-- A number of 256 bits. -/
def val4 (a b c d : Int) : Int := a + b * 18446744073709551616 + c * 340282366920938463463374607431768211456 + d * 6277101735386680763835789423207666416102355444464034512896
def Word (a : Int) : Prop := 0 ≤ a ∧ a < 18446744073709551616
theorem pr_val (a0 a1 b0 b1 : Int) : val4 (pr0 a0 a1 b0 b1) (pr1 a0 a1 b0 b1) (pr2 a0 a1 b0 b1) (pr3 a0 a1 b0 b1) = val a0 a1 * val b0 b1 := by
  have e1 := @st_eq a0 b0 0 0
  have e2 := @st_eq a0 b1 0 (stHi a0 b0 0 0)
  have e3 := @st_eq a1 b0 (stLo a0 b1 0 (stHi a0 b0 0 0)) 0
  have e4 := @st_eq a1 b1 (stHi a0 b1 0 (stHi a0 b0 0 0)) (stHi a1 b0 (stLo a0 b1 0 (stHi a0 b0 0 0)) 0)
  unfold val4 val pr0 pr1 pr2 pr3
  generalize stLo a0 b0 0 0 = l1 at *
  generalize stHi a0 b0 0 0 = h1 at *
  generalize stLo a0 b1 0 h1 = l2 at *
  generalize stHi a0 b1 0 h1 = h2 at *
  generalize stLo a1 b0 l2 0 = l3 at *
  generalize stHi a1 b0 l2 0 = h3 at *
  generalize stLo a1 b1 h2 h3 = l4 at *
  generalize stHi a1 b1 h2 h3 = h4 at *
  have e : (a0 + a1 * 18446744073709551616) * (b0 + b1 * 18446744073709551616) = a0 * b0 + (a0 * b1 + a1 * b0) * 18446744073709551616 + a1 * b1 * 340282366920938463463374607431768211456 := by
    grind
  rw [e]
  omega
/-- What folding makes of a number, word by word. -/
def fh (n2 n3 : Int) : Int := summed (mlo n3 28) (mhi n2 28) 0
def fc (n2 n3 : Int) : Int := carried (mlo n3 28) (mhi n2 28) 0
def ft (n2 n3 : Int) : Int := mhi n3 28 + fc n2 n3
def f1 (n1 n2 : Int) : Int := summed n1 (mlo n2 28) 0
def f1c (n1 n2 : Int) : Int := carried n1 (mlo n2 28) 0
def f2 (n1 n2 n3 : Int) : Int := summed (fh n2 n3) 0 (f1c n1 n2)
def f2c (n1 n2 n3 : Int) : Int := carried (fh n2 n3) 0 (f1c n1 n2)
def f3 (n1 n2 n3 : Int) : Int := ft n2 n3 + f2c n1 n2 n3
def g0 (n0 n2 : Int) : Int := diff n0 n2 0
def g0b (n0 n2 : Int) : Int := borrow n0 n2 0
def g1 (n0 n1 n2 n3 : Int) : Int := diff (f1 n1 n2) n3 (g0b n0 n2)
def g1b (n0 n1 n2 n3 : Int) : Int := borrow (f1 n1 n2) n3 (g0b n0 n2)
def g2 (n0 n1 n2 n3 : Int) : Int := diff (f2 n1 n2 n3) 0 (g1b n0 n1 n2 n3)
def g2b (n0 n1 n2 n3 : Int) : Int := borrow (f2 n1 n2 n3) 0 (g1b n0 n1 n2 n3)
def g3 (n0 n1 n2 n3 : Int) : Int := f3 n1 n2 n3 - g2b n0 n1 n2 n3
theorem fold_facts {n0 n1 n2 n3 : Int} (h0 : Word n0) (h1 : Word n1) (h2 : Word n2) (h3 : Word n3) :
    (Word (fh n2 n3) ∧ 0 ≤ fc n2 n3 ∧ fc n2 n3 ≤ 1 ∧ 0 ≤ mhi n3 28 ∧ mhi n3 28 ≤ 28 ∧ Word (f1 n1 n2) ∧ 0 ≤ f1c n1 n2 ∧ f1c n1 n2 ≤ 1 ∧ Word (f2 n1 n2 n3) ∧ 0 ≤ f2c n1 n2 n3 ∧ f2c n1 n2 n3 ≤ 1) ∧
    (0 ≤ g0b n0 n2 ∧ g0b n0 n2 ≤ 1 ∧ 0 ≤ g1b n0 n1 n2 n3 ∧ g1b n0 n1 n2 n3 ≤ 1 ∧ 0 ≤ g2b n0 n1 n2 n3 ∧ g2b n0 n1 n2 n3 ≤ 1) ∧
    (Word (g0 n0 n2) ∧ Word (g1 n0 n1 n2 n3) ∧ Word (g2 n0 n1 n2 n3) ∧ Word (g3 n0 n1 n2 n3)) ∧
    val4 (g0 n0 n2) (g1 n0 n1 n2 n3) (g2 n0 n1 n2 n3) (g3 n0 n1 n2 n3) = val4 n0 n1 n2 n3 - val n2 n3 * M 2 := by
  have m2 := mhl_eq n2 28
  have m3 := mhl_eq n3 28
  have l2 := mlo_bound n2 28
  have l3 := mlo_bound n3 28
  unfold Word at *
  have u2 : 0 ≤ mhi n2 28 ∧ mhi n2 28 ≤ 28 := by omega
  have u3 : 0 ≤ mhi n3 28 ∧ mhi n3 28 ≤ 28 := by omega
  unfold g3 g2 g2b g1 g1b g0 g0b f3 f2c f2 f1c f1 ft fc fh
  generalize mhi n2 28 = x2 at *
  generalize mlo n2 28 = y2 at *
  generalize mhi n3 28 = x3 at *
  generalize mlo n3 28 = y3 at *
  have a1 := carry_eq y3 x2 0
  have a2 := summed_bound y3 x2 0
  have a3 := carried_bound (x := y3) (y := x2) (c := 0) (by omega) (by omega) (by omega) (by omega) (by omega) (by omega)
  generalize summed y3 x2 0 = hh at *
  generalize carried y3 x2 0 = hc at *
  have b1 := carry_eq n1 y2 0
  have b2 := summed_bound n1 y2 0
  have b3 := carried_bound (x := n1) (y := y2) (c := 0) (by omega) (by omega) (by omega) (by omega) (by omega) (by omega)
  generalize summed n1 y2 0 = r1 at *
  generalize carried n1 y2 0 = c1 at *
  have d1 := carry_eq hh 0 c1
  have d2 := summed_bound hh 0 c1
  have d3 := carried_bound (x := hh) (y := 0) (c := c1) (by omega) (by omega) (by omega) (by omega) (by omega) (by omega)
  generalize summed hh 0 c1 = r2 at *
  generalize carried hh 0 c1 = c2 at *
  have e1 := borrow_eq (x := n0) (y := n2) (b := 0) (by omega) (by omega) (by omega) (by omega) (by omega) (by omega)
  have e2 := diff_bound n0 n2 0
  have e3 := borrow_bound n0 n2 0
  generalize diff n0 n2 0 = s0 at *
  generalize borrow n0 n2 0 = v0 at *
  have p1 := borrow_eq (x := r1) (y := n3) (b := v0) (by omega) (by omega) (by omega) (by omega) (by omega) (by omega)
  have p2 := diff_bound r1 n3 v0
  have p3 := borrow_bound r1 n3 v0
  generalize diff r1 n3 v0 = s1 at *
  generalize borrow r1 n3 v0 = v1 at *
  have q1 := borrow_eq (x := r2) (y := 0) (b := v1) (by omega) (by omega) (by omega) (by omega) (by omega) (by omega)
  have q2 := diff_bound r2 0 v1
  have q3 := borrow_bound r2 0 v1
  generalize diff r2 0 v1 = s2 at *
  generalize borrow r2 0 v1 = v2 at *
  have hval : val4 s0 s1 s2 (x3 + hc + c2 - v2) = val4 n0 n1 n2 n3 - val n2 n3 * M 2 := by
    unfold val4 val
    rw [M2]
    omega
  have hpos : 0 ≤ val4 n0 n1 n2 n3 - val n2 n3 * M 2 := by unfold val4 val; rw [M2]; omega
  refine ⟨⟨a2, a3.1, a3.2, u3.1, u3.2, b2, b3.1, b3.2, d2, d3.1, d3.2⟩, ⟨e3.1, e3.2, p3.1, p3.2, q3.1, q3.2⟩, ⟨e2, p2, q2, ?_, by omega⟩, hval⟩
  rw [← hval] at hpos
  unfold val4 at hpos
  omega

end Go.Proofs.Ytobannolnjmegaa
