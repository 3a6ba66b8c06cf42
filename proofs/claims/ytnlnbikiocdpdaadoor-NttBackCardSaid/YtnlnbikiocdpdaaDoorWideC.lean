/-
  Contracts of package wide: products: of 256 bits, and folded.
-/
import Derived.Test.YtnlnbikiocdpdaaDoorWideA
import Derived.Test.YtnlnbikiocdpdaaDoorShelf
namespace Go.Proofs.YtnlnbikiocdpdaaDoor
open Go.RowKit F Flow
set_option linter.unusedVariables false

theorem carry_eq (x y c : Int) : x + y + c = carried x y c * 18446744073709551616 + summed x y c := by unfold carried summed; omega
theorem borrow_eq {x y b : Int} (hx : 0 ≤ x) (hx' : x < 18446744073709551616) (hy : 0 ≤ y) (hy' : y < 18446744073709551616) (hb : 0 ≤ b) (hb' : b ≤ 1) : x - y - b = diff x y b - borrow x y b * 18446744073709551616 := by
  unfold diff borrow; split <;> omega
def mhi (x y : Int) : Int := x * y / 18446744073709551616
def mlo (x y : Int) : Int := x * y % 18446744073709551616
theorem mhl_eq (x y : Int) : x * y = mhi x y * 18446744073709551616 + mlo x y := by unfold mhi mlo; omega
theorem mlo_bound (x y : Int) : 0 ≤ mlo x y ∧ mlo x y < 18446744073709551616 := by unfold mlo; omega
theorem mul_le {x y : Int} (hx : 0 ≤ x) (hx' : x < 18446744073709551616) (hy : 0 ≤ y) (hy' : y < 18446744073709551616) : 0 ≤ x * y ∧ x * y ≤ 18446744073709551615 * 18446744073709551615 :=
  ⟨Int.mul_nonneg hx hy, Int.mul_le_mul (by omega) (by omega) hy (by omega)⟩
theorem mhi_bound {x y : Int} (hx : 0 ≤ x) (hx' : x < 18446744073709551616) (hy : 0 ≤ y) (hy' : y < 18446744073709551616) : 0 ≤ mhi x y ∧ mhi x y ≤ 18446744073709551614 := by
  have h := mul_le hx hx' hy hy'
  unfold mhi
  omega
theorem mul64_any (x y : Int) (hx : 0 ≤ x) (hx' : x < 18446744073709551616) (hy : 0 ≤ y) (hy' : y < 18446744073709551616) (w : World) :
    Calls Tryd.prog 62 #[.int .u64 x, .int .u64 y] w fun e w' => e = .returned (.tuple #[.int .u64 (mhi x y), .int .u64 (mlo x y)]) ∧ w = w' := by
  obtain ⟨X, rfl⟩ := Int.eq_ofNat_of_zero_le hx
  obtain ⟨Y, rfl⟩ := Int.eq_ofNat_of_zero_le hy
  have e1 : ((X * Y / 18446744073709551616 : Nat) : Int) = mhi X Y := by unfold mhi; rw [← Int.natCast_mul]; omega
  have e2 : ((X * Y % 18446744073709551616 : Nat) : Int) = mlo X Y := by unfold mlo; rw [← Int.natCast_mul]; omega
  have h := Tryd.bits_Mul64 X Y (by omega) (by omega) w
  rw [e1, e2] at h
  exact h.mono fun _ _ hh => ⟨hh.1, hh.2.symm⟩

/-- One place of a product: x times y, what stands there, and what is carried on. -/
def stUp (x y n : Int) : Int := carried (mlo x y) n 0
def stMid (x y n : Int) : Int := summed (mlo x y) n 0
def stLo (x y n c : Int) : Int := summed (stMid x y n) c 0
def stUp2 (x y n c : Int) : Int := carried (stMid x y n) c 0
def stHi (x y n c : Int) : Int := mhi x y + stUp x y n + stUp2 x y n c
theorem st_eq {x y n c : Int} : x * y + n + c = stHi x y n c * 18446744073709551616 + stLo x y n c := by
  have h := mhl_eq x y
  unfold stHi stLo stUp2 stUp stMid carried summed
  omega
theorem stMid_bound (x y n : Int) : 0 ≤ stMid x y n ∧ stMid x y n < 18446744073709551616 := summed_bound _ _ _
theorem stLo_bound (x y n c : Int) : 0 ≤ stLo x y n c ∧ stLo x y n c < 18446744073709551616 := summed_bound _ _ _
theorem st_bound {x y n c : Int} (hx : 0 ≤ x) (hx' : x < 18446744073709551616) (hy : 0 ≤ y) (hy' : y < 18446744073709551616) (hn : 0 ≤ n) (hn' : n < 18446744073709551616) (hc : 0 ≤ c) (hc' : c < 18446744073709551616) :
    0 ≤ stUp x y n ∧ stUp x y n ≤ 1 ∧ 0 ≤ stUp2 x y n c ∧ stUp2 x y n c ≤ 1 ∧ 0 ≤ stHi x y n c ∧ stHi x y n c < 18446744073709551616 := by
  have h1 := mul_le hx hx' hy hy'
  have h2 := @st_eq x y n c
  have h3 := stLo_bound x y n c
  have h4 : 0 ≤ stUp x y n ∧ stUp x y n ≤ 1 := carried_bound (mlo_bound x y).1 (mlo_bound x y).2 hn hn' (by omega) (by omega)
  have h5 : 0 ≤ stUp2 x y n c ∧ stUp2 x y n c ≤ 1 := carried_bound (stMid_bound x y n).1 (stMid_bound x y n).2 hc hc' (by omega) (by omega)
  refine ⟨h4.1, h4.2, h5.1, h5.2, ?_, ?_⟩ <;> omega
theorem st_run1 {x y n : Int} (hn : 0 ≤ n) (hn' : n < 18446744073709551616) (w : World) :
    (callFunc 70 #[.int .u64 (mlo x y), .int .u64 n, .int .u64 0]).run Tryd.prog w = .ok (.value (.tuple #[.int .u64 (stMid x y n), .int .u64 (stUp x y n)])) w :=
  add64_run _ _ _ (mlo_bound x y).1 (mlo_bound x y).2 hn hn' (by omega) (by omega) w
theorem st_run2 {x y n c : Int} (hc : 0 ≤ c) (hc' : c < 18446744073709551616) (w : World) :
    (callFunc 70 #[.int .u64 (stMid x y n), .int .u64 c, .int .u64 0]).run Tryd.prog w = .ok (.value (.tuple #[.int .u64 (stLo x y n c), .int .u64 (stUp2 x y n c)])) w :=
  add64_run _ _ _ (stMid_bound x y n).1 (stMid_bound x y n).2 hc hc' (by omega) (by omega) w

theorem idx0 (x y : Int) (w : World) : (Instr.index 34 (.agg #[.int .u64 x, .int .u64 y]) (.int .i64 0)).run Tryd.prog w = .ok (.int .u64 x) w := by kernel_rfl
theorem idx1 (x y : Int) (w : World) : (Instr.index 34 (.agg #[.int .u64 x, .int .u64 y]) (.int .i64 1)).run Tryd.prog w = .ok (.int .u64 y) w := by kernel_rfl
attribute [local go_sem] idx0 idx1
def pr0 (a0 a1 b0 b1 : Int) : Int := stLo a0 b0 0 0
def pr1 (a0 a1 b0 b1 : Int) : Int := stLo a1 b0 (stLo a0 b1 0 (stHi a0 b0 0 0)) 0
def pr2 (a0 a1 b0 b1 : Int) : Int := stLo a1 b1 (stHi a0 b1 0 (stHi a0 b0 0 0)) (stHi a1 b0 (stLo a0 b1 0 (stHi a0 b0 0 0)) 0)
def pr3 (a0 a1 b0 b1 : Int) : Int := stHi a1 b1 (stHi a0 b1 0 (stHi a0 b0 0 0)) (stHi a1 b0 (stLo a0 b1 0 (stHi a0 b0 0 0)) 0)
set_option maxHeartbeats 4000000 in
theorem wprod_raw (a0 a1 b0 b1 : Int) (hx : 0 ≤ a0) (hx' : a0 < 18446744073709551616) (hy : 0 ≤ a1) (hy' : a1 < 18446744073709551616) (h0 : 0 ≤ b0) (h0' : b0 < 18446744073709551616) (h1 : 0 ≤ b1) (h1' : b1 < 18446744073709551616) (w : World) :
    Calls Tryd.prog 64 #[.agg #[.int .u64 a0, .int .u64 a1], .agg #[.int .u64 b0, .int .u64 b1]] w fun e w' => e = .returned (.agg #[.int .u64 (pr0 a0 a1 b0 b1), .int .u64 (pr1 a0 a1 b0 b1), .int .u64 (pr2 a0 a1 b0 b1), .int .u64 (pr3 a0 a1 b0 b1)]) ∧ Below w.heap.size w w' := by
  have pb := st_bound (x := a0) (y := b0) (n := 0) (c := 0) (by omega) (by omega) (by omega) (by omega) (by omega) (by omega) (by omega) (by omega)
  have pc := mhi_bound (x := a0) (y := b0) (by omega) (by omega) (by omega) (by omega)
  have pl := stLo_bound (a0) (b0) (0) (0)
  have pr : ∀ w, _ := st_run1 (x := a0) (y := b0) (n := 0) (by omega) (by omega)
  have ps : ∀ w, _ := st_run2 (x := a0) (y := b0) (n := 0) (c := 0) (by omega) (by omega)
  have ph : mhi (a0) (b0) + stUp (a0) (b0) (0) + stUp2 (a0) (b0) (0) (0) = stHi (a0) (b0) (0) (0) := rfl
  have qb := st_bound (x := a0) (y := b1) (n := 0) (c := stHi a0 b0 0 0) (by omega) (by omega) (by omega) (by omega) (by omega) (by omega) (by omega) (by omega)
  have qc := mhi_bound (x := a0) (y := b1) (by omega) (by omega) (by omega) (by omega)
  have ql := stLo_bound (a0) (b1) (0) (stHi a0 b0 0 0)
  have qr : ∀ w, _ := st_run1 (x := a0) (y := b1) (n := 0) (by omega) (by omega)
  have qs : ∀ w, _ := st_run2 (x := a0) (y := b1) (n := 0) (c := stHi a0 b0 0 0) (by omega) (by omega)
  have qh : mhi (a0) (b1) + stUp (a0) (b1) (0) + stUp2 (a0) (b1) (0) (stHi a0 b0 0 0) = stHi (a0) (b1) (0) (stHi a0 b0 0 0) := rfl
  have rb := st_bound (x := a1) (y := b0) (n := stLo a0 b1 0 (stHi a0 b0 0 0)) (c := 0) (by omega) (by omega) (by omega) (by omega) (by omega) (by omega) (by omega) (by omega)
  have rc := mhi_bound (x := a1) (y := b0) (by omega) (by omega) (by omega) (by omega)
  have rl := stLo_bound (a1) (b0) (stLo a0 b1 0 (stHi a0 b0 0 0)) (0)
  have rr : ∀ w, _ := st_run1 (x := a1) (y := b0) (n := stLo a0 b1 0 (stHi a0 b0 0 0)) (by omega) (by omega)
  have rs : ∀ w, _ := st_run2 (x := a1) (y := b0) (n := stLo a0 b1 0 (stHi a0 b0 0 0)) (c := 0) (by omega) (by omega)
  have rh : mhi (a1) (b0) + stUp (a1) (b0) (stLo a0 b1 0 (stHi a0 b0 0 0)) + stUp2 (a1) (b0) (stLo a0 b1 0 (stHi a0 b0 0 0)) (0) = stHi (a1) (b0) (stLo a0 b1 0 (stHi a0 b0 0 0)) (0) := rfl
  have sb := st_bound (x := a1) (y := b1) (n := stHi a0 b1 0 (stHi a0 b0 0 0)) (c := stHi a1 b0 (stLo a0 b1 0 (stHi a0 b0 0 0)) 0) (by omega) (by omega) (by omega) (by omega) (by omega) (by omega) (by omega) (by omega)
  have sc := mhi_bound (x := a1) (y := b1) (by omega) (by omega) (by omega) (by omega)
  have sl := stLo_bound (a1) (b1) (stHi a0 b1 0 (stHi a0 b0 0 0)) (stHi a1 b0 (stLo a0 b1 0 (stHi a0 b0 0 0)) 0)
  have sr : ∀ w, _ := st_run1 (x := a1) (y := b1) (n := stHi a0 b1 0 (stHi a0 b0 0 0)) (by omega) (by omega)
  have ss : ∀ w, _ := st_run2 (x := a1) (y := b1) (n := stHi a0 b1 0 (stHi a0 b0 0 0)) (c := stHi a1 b0 (stLo a0 b1 0 (stHi a0 b0 0 0)) 0) (by omega) (by omega)
  have sh : mhi (a1) (b1) + stUp (a1) (b1) (stHi a0 b1 0 (stHi a0 b0 0 0)) + stUp2 (a1) (b1) (stHi a0 b1 0 (stHi a0 b0 0 0)) (stHi a1 b0 (stLo a0 b1 0 (stHi a0 b0 0 0)) 0) = stHi (a1) (b1) (stHi a0 b1 0 (stHi a0 b0 0 0)) (stHi a1 b0 (stLo a0 b1 0 (stHi a0 b0 0 0)) 0) := rfl
  go_enter Tryd.func64, Tryd.ntmps64
  go_wp2
  refine wp_loop_rounds 3 ?_
  rw [rounds_succ]
  go_wp2
  refine wp_loop_rounds 3 ?_
  rw [rounds_succ]
  go_wp2_with (go_at_call 62; refine (mul64_any _ _ (by omega) (by omega) (by omega) (by omega) _).mono ?_; rintro e w' ⟨rfl, rfl⟩)
  rw [rounds_succ]
  go_wp2_with (go_at_call 62; refine (mul64_any _ _ (by omega) (by omega) (by omega) (by omega) _).mono ?_; rintro e w' ⟨rfl, rfl⟩)
  rw [rounds_succ]
  go_wp2
  rw [rounds_succ]
  go_wp2
  refine wp_loop_rounds 3 ?_
  rw [rounds_succ]
  go_wp2_with (go_at_call 62; refine (mul64_any _ _ (by omega) (by omega) (by omega) (by omega) _).mono ?_; rintro e w' ⟨rfl, rfl⟩)
  rw [rounds_succ]
  go_wp2_with (go_at_call 62; refine (mul64_any _ _ (by omega) (by omega) (by omega) (by omega) _).mono ?_; rintro e w' ⟨rfl, rfl⟩)
  rw [rounds_succ]
  go_wp2
  rw [rounds_succ]
  go_wp2
  exact bodyPost_ret (v := .agg #[.int .u64 (pr0 a0 a1 b0 b1), .int .u64 (pr1 a0 a1 b0 b1), .int .u64 (pr2 a0 a1 b0 b1), .int .u64 (pr3 a0 a1 b0 b1)]) (by simp [results, Tryd.results64, go_sem]; exact ⟨rfl, rfl, rfl, rfl⟩) rfl
    ⟨rfl, ((((Below.refl _ _).alloc (Nat.le_refl _) _).alloc (by simp) _).alloc (by simp; omega) _).alloc (by simp; omega) _⟩

/-- A number of 256 bits. -/
def val4 (a b c d : Int) : Int := a + b * 18446744073709551616 + c * 340282366920938463463374607431768211456 + d * 6277101735386680763835789423207666416102355444464034512896
def Word (a : Int) : Prop := 0 ≤ a ∧ a < 18446744073709551616
theorem pr_val (a0 a1 b0 b1 : Int) : val4 (pr0 a0 a1 b0 b1) (pr1 a0 a1 b0 b1) (pr2 a0 a1 b0 b1) (pr3 a0 a1 b0 b1) = val a0 a1 * val b0 b1 := by
  have e1 := @st_eq a0 b0 0 0
  have e2 := @st_eq a0 b1 0 (stHi a0 b0 0 0)
  have e3 := @st_eq a1 b0 (stLo a0 b1 0 (stHi a0 b0 0 0)) 0
  have e4 := @st_eq a1 b1 (stHi a0 b1 0 (stHi a0 b0 0 0)) (stHi a1 b0 (stLo a0 b1 0 (stHi a0 b0 0 0)) 0)
  unfold val4 val pr0 pr1 pr2 pr3
  generalize stLo a0 b0 0 0 = l1 at *
  generalize stHi a0 b0 0 0 = h1 at *
  generalize stLo a0 b1 0 h1 = l2 at *
  generalize stHi a0 b1 0 h1 = h2 at *
  generalize stLo a1 b0 l2 0 = l3 at *
  generalize stHi a1 b0 l2 0 = h3 at *
  generalize stLo a1 b1 h2 h3 = l4 at *
  generalize stHi a1 b1 h2 h3 = h4 at *
  have e : (a0 + a1 * 18446744073709551616) * (b0 + b1 * 18446744073709551616) = a0 * b0 + (a0 * b1 + a1 * b0) * 18446744073709551616 + a1 * b1 * 340282366920938463463374607431768211456 := by
    grind
  rw [e]
  omega
theorem pr_words {a0 a1 b0 b1 : Int} (hx : 0 ≤ a0) (hx' : a0 < 18446744073709551616) (hy : 0 ≤ a1) (hy' : a1 < 18446744073709551616) (h0 : 0 ≤ b0) (h0' : b0 < 18446744073709551616) (h1 : 0 ≤ b1) (h1' : b1 < 18446744073709551616) :
    Word (pr0 a0 a1 b0 b1) ∧ Word (pr1 a0 a1 b0 b1) ∧ Word (pr2 a0 a1 b0 b1) ∧ Word (pr3 a0 a1 b0 b1) := by
  have pb := st_bound (x := a0) (y := b0) (n := 0) (c := 0) (by omega) (by omega) (by omega) (by omega) (by omega) (by omega) (by omega) (by omega)
  have pc := mhi_bound (x := a0) (y := b0) (by omega) (by omega) (by omega) (by omega)
  have pl := stLo_bound (a0) (b0) (0) (0)
  have pr : ∀ w, _ := st_run1 (x := a0) (y := b0) (n := 0) (by omega) (by omega)
  have ps : ∀ w, _ := st_run2 (x := a0) (y := b0) (n := 0) (c := 0) (by omega) (by omega)
  have ph : mhi (a0) (b0) + stUp (a0) (b0) (0) + stUp2 (a0) (b0) (0) (0) = stHi (a0) (b0) (0) (0) := rfl
  have qb := st_bound (x := a0) (y := b1) (n := 0) (c := stHi a0 b0 0 0) (by omega) (by omega) (by omega) (by omega) (by omega) (by omega) (by omega) (by omega)
  have qc := mhi_bound (x := a0) (y := b1) (by omega) (by omega) (by omega) (by omega)
  have ql := stLo_bound (a0) (b1) (0) (stHi a0 b0 0 0)
  have qr : ∀ w, _ := st_run1 (x := a0) (y := b1) (n := 0) (by omega) (by omega)
  have qs : ∀ w, _ := st_run2 (x := a0) (y := b1) (n := 0) (c := stHi a0 b0 0 0) (by omega) (by omega)
  have qh : mhi (a0) (b1) + stUp (a0) (b1) (0) + stUp2 (a0) (b1) (0) (stHi a0 b0 0 0) = stHi (a0) (b1) (0) (stHi a0 b0 0 0) := rfl
  have rb := st_bound (x := a1) (y := b0) (n := stLo a0 b1 0 (stHi a0 b0 0 0)) (c := 0) (by omega) (by omega) (by omega) (by omega) (by omega) (by omega) (by omega) (by omega)
  have rc := mhi_bound (x := a1) (y := b0) (by omega) (by omega) (by omega) (by omega)
  have rl := stLo_bound (a1) (b0) (stLo a0 b1 0 (stHi a0 b0 0 0)) (0)
  have rr : ∀ w, _ := st_run1 (x := a1) (y := b0) (n := stLo a0 b1 0 (stHi a0 b0 0 0)) (by omega) (by omega)
  have rs : ∀ w, _ := st_run2 (x := a1) (y := b0) (n := stLo a0 b1 0 (stHi a0 b0 0 0)) (c := 0) (by omega) (by omega)
  have rh : mhi (a1) (b0) + stUp (a1) (b0) (stLo a0 b1 0 (stHi a0 b0 0 0)) + stUp2 (a1) (b0) (stLo a0 b1 0 (stHi a0 b0 0 0)) (0) = stHi (a1) (b0) (stLo a0 b1 0 (stHi a0 b0 0 0)) (0) := rfl
  have sb := st_bound (x := a1) (y := b1) (n := stHi a0 b1 0 (stHi a0 b0 0 0)) (c := stHi a1 b0 (stLo a0 b1 0 (stHi a0 b0 0 0)) 0) (by omega) (by omega) (by omega) (by omega) (by omega) (by omega) (by omega) (by omega)
  have sc := mhi_bound (x := a1) (y := b1) (by omega) (by omega) (by omega) (by omega)
  have sl := stLo_bound (a1) (b1) (stHi a0 b1 0 (stHi a0 b0 0 0)) (stHi a1 b0 (stLo a0 b1 0 (stHi a0 b0 0 0)) 0)
  have sr : ∀ w, _ := st_run1 (x := a1) (y := b1) (n := stHi a0 b1 0 (stHi a0 b0 0 0)) (by omega) (by omega)
  have ss : ∀ w, _ := st_run2 (x := a1) (y := b1) (n := stHi a0 b1 0 (stHi a0 b0 0 0)) (c := stHi a1 b0 (stLo a0 b1 0 (stHi a0 b0 0 0)) 0) (by omega) (by omega)
  have sh : mhi (a1) (b1) + stUp (a1) (b1) (stHi a0 b1 0 (stHi a0 b0 0 0)) + stUp2 (a1) (b1) (stHi a0 b1 0 (stHi a0 b0 0 0)) (stHi a1 b0 (stLo a0 b1 0 (stHi a0 b0 0 0)) 0) = stHi (a1) (b1) (stHi a0 b1 0 (stHi a0 b0 0 0)) (stHi a1 b0 (stLo a0 b1 0 (stHi a0 b0 0 0)) 0) := rfl
  exact ⟨pl, rl, sl, ⟨sb.2.2.2.2.1, sb.2.2.2.2.2⟩⟩

/-- What folding makes of a number, word by word. -/
def fh (n2 n3 : Int) : Int := summed (mlo n3 28) (mhi n2 28) 0
def fc (n2 n3 : Int) : Int := carried (mlo n3 28) (mhi n2 28) 0
def ft (n2 n3 : Int) : Int := mhi n3 28 + fc n2 n3
def f1 (n1 n2 : Int) : Int := summed n1 (mlo n2 28) 0
def f1c (n1 n2 : Int) : Int := carried n1 (mlo n2 28) 0
def f2 (n1 n2 n3 : Int) : Int := summed (fh n2 n3) 0 (f1c n1 n2)
def f2c (n1 n2 n3 : Int) : Int := carried (fh n2 n3) 0 (f1c n1 n2)
def f3 (n1 n2 n3 : Int) : Int := ft n2 n3 + f2c n1 n2 n3
def g0 (n0 n2 : Int) : Int := diff n0 n2 0
def g0b (n0 n2 : Int) : Int := borrow n0 n2 0
def g1 (n0 n1 n2 n3 : Int) : Int := diff (f1 n1 n2) n3 (g0b n0 n2)
def g1b (n0 n1 n2 n3 : Int) : Int := borrow (f1 n1 n2) n3 (g0b n0 n2)
def g2 (n0 n1 n2 n3 : Int) : Int := diff (f2 n1 n2 n3) 0 (g1b n0 n1 n2 n3)
def g2b (n0 n1 n2 n3 : Int) : Int := borrow (f2 n1 n2 n3) 0 (g1b n0 n1 n2 n3)
def g3 (n0 n1 n2 n3 : Int) : Int := f3 n1 n2 n3 - g2b n0 n1 n2 n3
theorem fold_facts {n0 n1 n2 n3 : Int} (h0 : Word n0) (h1 : Word n1) (h2 : Word n2) (h3 : Word n3) :
    (Word (fh n2 n3) ∧ 0 ≤ fc n2 n3 ∧ fc n2 n3 ≤ 1 ∧ 0 ≤ mhi n3 28 ∧ mhi n3 28 ≤ 28 ∧ Word (f1 n1 n2) ∧ 0 ≤ f1c n1 n2 ∧ f1c n1 n2 ≤ 1 ∧ Word (f2 n1 n2 n3) ∧ 0 ≤ f2c n1 n2 n3 ∧ f2c n1 n2 n3 ≤ 1) ∧
    (0 ≤ g0b n0 n2 ∧ g0b n0 n2 ≤ 1 ∧ 0 ≤ g1b n0 n1 n2 n3 ∧ g1b n0 n1 n2 n3 ≤ 1 ∧ 0 ≤ g2b n0 n1 n2 n3 ∧ g2b n0 n1 n2 n3 ≤ 1) ∧
    (Word (g0 n0 n2) ∧ Word (g1 n0 n1 n2 n3) ∧ Word (g2 n0 n1 n2 n3) ∧ Word (g3 n0 n1 n2 n3)) ∧
    val4 (g0 n0 n2) (g1 n0 n1 n2 n3) (g2 n0 n1 n2 n3) (g3 n0 n1 n2 n3) = val4 n0 n1 n2 n3 - val n2 n3 * M 2 := by
  have m2 := mhl_eq n2 28
  have m3 := mhl_eq n3 28
  have l2 := mlo_bound n2 28
  have l3 := mlo_bound n3 28
  unfold Word at *
  have u2 : 0 ≤ mhi n2 28 ∧ mhi n2 28 ≤ 28 := by omega
  have u3 : 0 ≤ mhi n3 28 ∧ mhi n3 28 ≤ 28 := by omega
  unfold g3 g2 g2b g1 g1b g0 g0b f3 f2c f2 f1c f1 ft fc fh
  generalize mhi n2 28 = x2 at *
  generalize mlo n2 28 = y2 at *
  generalize mhi n3 28 = x3 at *
  generalize mlo n3 28 = y3 at *
  have a1 := carry_eq y3 x2 0
  have a2 := summed_bound y3 x2 0
  have a3 := carried_bound (x := y3) (y := x2) (c := 0) (by omega) (by omega) (by omega) (by omega) (by omega) (by omega)
  generalize summed y3 x2 0 = hh at *
  generalize carried y3 x2 0 = hc at *
  have b1 := carry_eq n1 y2 0
  have b2 := summed_bound n1 y2 0
  have b3 := carried_bound (x := n1) (y := y2) (c := 0) (by omega) (by omega) (by omega) (by omega) (by omega) (by omega)
  generalize summed n1 y2 0 = r1 at *
  generalize carried n1 y2 0 = c1 at *
  have d1 := carry_eq hh 0 c1
  have d2 := summed_bound hh 0 c1
  have d3 := carried_bound (x := hh) (y := 0) (c := c1) (by omega) (by omega) (by omega) (by omega) (by omega) (by omega)
  generalize summed hh 0 c1 = r2 at *
  generalize carried hh 0 c1 = c2 at *
  have e1 := borrow_eq (x := n0) (y := n2) (b := 0) (by omega) (by omega) (by omega) (by omega) (by omega) (by omega)
  have e2 := diff_bound n0 n2 0
  have e3 := borrow_bound n0 n2 0
  generalize diff n0 n2 0 = s0 at *
  generalize borrow n0 n2 0 = v0 at *
  have p1 := borrow_eq (x := r1) (y := n3) (b := v0) (by omega) (by omega) (by omega) (by omega) (by omega) (by omega)
  have p2 := diff_bound r1 n3 v0
  have p3 := borrow_bound r1 n3 v0
  generalize diff r1 n3 v0 = s1 at *
  generalize borrow r1 n3 v0 = v1 at *
  have q1 := borrow_eq (x := r2) (y := 0) (b := v1) (by omega) (by omega) (by omega) (by omega) (by omega) (by omega)
  have q2 := diff_bound r2 0 v1
  have q3 := borrow_bound r2 0 v1
  generalize diff r2 0 v1 = s2 at *
  generalize borrow r2 0 v1 = v2 at *
  have hval : val4 s0 s1 s2 (x3 + hc + c2 - v2) = val4 n0 n1 n2 n3 - val n2 n3 * M 2 := by
    unfold val4 val
    rw [M2]
    omega
  have hpos : 0 ≤ val4 n0 n1 n2 n3 - val n2 n3 * M 2 := by unfold val4 val; rw [M2]; omega
  refine ⟨⟨a2, a3.1, a3.2, u3.1, u3.2, b2, b3.1, b3.2, d2, d3.1, d3.2⟩, ⟨e3.1, e3.2, p3.1, p3.2, q3.1, q3.2⟩, ⟨e2, p2, q2, ?_, by omega⟩, hval⟩
  rw [← hval] at hpos
  unfold val4 at hpos
  omega

set_option maxHeartbeats 4000000 in
theorem wfold_raw (n0 n1 n2 n3 : Int) (h0 : Word n0) (h1 : Word n1) (h2 : Word n2) (h3 : Word n3) (w : World) :
    Calls Tryd.prog 65 #[.agg #[.int .u64 n0, .int .u64 n1, .int .u64 n2, .int .u64 n3]] w fun e w' => e = .returned (.agg #[.int .u64 (g0 n0 n2), .int .u64 (g1 n0 n1 n2 n3), .int .u64 (g2 n0 n1 n2 n3), .int .u64 (g3 n0 n1 n2 n3)]) ∧ Below w.heap.size w w' := by
  obtain ⟨⟨q1, q2, q3, q4, q5, q6, q7, q8, q9, q10, q11⟩, ⟨v1, v2, v3, v4, v5, v6⟩, ⟨z1, z2, z3, z4⟩, _⟩ := fold_facts h0 h1 h2 h3
  have l2 := mlo_bound n2 28
  have l3 := mlo_bound n3 28
  unfold Word at *
  have u2 := mhi_bound (x := n2) (y := 28) (by omega) (by omega) (by omega) (by omega)
  have R1 : ∀ w, (callFunc 70 #[.int .u64 (mlo n3 28), .int .u64 (mhi n2 28), .int .u64 0]).run Tryd.prog w = .ok (.value (.tuple #[.int .u64 (fh n2 n3), .int .u64 (fc n2 n3)])) w := add64_run _ _ _ (by omega) (by omega) (by omega) (by omega) (by omega) (by omega)
  have R2 : ∀ w, (callFunc 70 #[.int .u64 n1, .int .u64 (mlo n2 28), .int .u64 0]).run Tryd.prog w = .ok (.value (.tuple #[.int .u64 (f1 n1 n2), .int .u64 (f1c n1 n2)])) w := add64_run _ _ _ (by omega) (by omega) (by omega) (by omega) (by omega) (by omega)
  have R3 : ∀ w, (callFunc 70 #[.int .u64 (fh n2 n3), .int .u64 0, .int .u64 (f1c n1 n2)]).run Tryd.prog w = .ok (.value (.tuple #[.int .u64 (f2 n1 n2 n3), .int .u64 (f2c n1 n2 n3)])) w := add64_run _ _ _ (by omega) (by omega) (by omega) (by omega) (by omega) (by omega)
  have R4 : ∀ w, (callFunc 68 #[.int .u64 n0, .int .u64 n2, .int .u64 0]).run Tryd.prog w = .ok (.value (.tuple #[.int .u64 (g0 n0 n2), .int .u64 (g0b n0 n2)])) w := sub64_run _ _ _ (by omega) (by omega) (by omega) (by omega) (by omega) (by omega)
  have R5 : ∀ w, (callFunc 68 #[.int .u64 (f1 n1 n2), .int .u64 n3, .int .u64 (g0b n0 n2)]).run Tryd.prog w = .ok (.value (.tuple #[.int .u64 (g1 n0 n1 n2 n3), .int .u64 (g1b n0 n1 n2 n3)])) w := sub64_run _ _ _ (by omega) (by omega) (by omega) (by omega) (by omega) (by omega)
  have R6 : ∀ w, (callFunc 68 #[.int .u64 (f2 n1 n2 n3), .int .u64 0, .int .u64 (g1b n0 n1 n2 n3)]).run Tryd.prog w = .ok (.value (.tuple #[.int .u64 (g2 n0 n1 n2 n3), .int .u64 (g2b n0 n1 n2 n3)])) w := sub64_run _ _ _ (by omega) (by omega) (by omega) (by omega) (by omega) (by omega)
  have T1 : mhi n3 28 + fc n2 n3 = ft n2 n3 := rfl
  have T2 : ft n2 n3 + f2c n1 n2 n3 = f3 n1 n2 n3 := rfl
  have T3 : f3 n1 n2 n3 - g2b n0 n1 n2 n3 = g3 n0 n1 n2 n3 := rfl
  have t1 : 0 ≤ ft n2 n3 ∧ ft n2 n3 ≤ 29 := by unfold ft; omega
  have t2 : 0 ≤ f3 n1 n2 n3 ∧ f3 n1 n2 n3 ≤ 30 := by unfold f3; omega
  have t3 : 0 ≤ f3 n1 n2 n3 - g2b n0 n1 n2 n3 := z4.1
  go_enter Tryd.func65, Tryd.ntmps65
  go_wp2_with (go_at_call 62; refine (mul64_any _ _ (by omega) (by omega) (by omega) (by omega) _).mono ?_; rintro e w' ⟨rfl, rfl⟩)
  exact bodyPost_ret (v := .agg #[.int .u64 (g0 n0 n2), .int .u64 (g1 n0 n1 n2 n3), .int .u64 (g2 n0 n1 n2 n3), .int .u64 (g3 n0 n1 n2 n3)]) (by simp [results, Tryd.results65, go_sem]) rfl
    ⟨rfl, ((((Below.refl _ _).alloc (Nat.le_refl _) _).alloc (by simp) _).alloc (by simp; omega) _)⟩
end Go.Proofs.YtnlnbikiocdpdaaDoor
