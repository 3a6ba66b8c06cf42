import Derived.WalkKit
import Derived.Laws.Bits64b
import Derived.Test.YtebgfelbffgnbaaGreatDoorBA
import Derived.Test.YtebgfelbffgnbaaGreatDoorShelf
import Derived.Deep.DeepCutAuto
import Derived.Deep.CutBlock
import Derived.Test.YtebgfelbffgnbaaGreatDoorRows
import Derived.Below
import Derived.ChangeSame
import Derived.ProofKit
import Derived.OpenShut
/-
  Plain arithmetic of a division of two words by 2^64 - 2^32 + 1, digit by digit of 32 bits.
-/
namespace Go.Proofs.YtebgfelbffgnbaaGreatDoor.F
set_option linter.unusedVariables false

/-- One digit of the quotient, and what is left. -/
def dq (a d : Int) : Int := (a * 4294967296 + d) / 18446744069414584321
def dr (a d : Int) : Int := (a * 4294967296 + d) % 18446744069414584321
/-- What the search for a digit knows. -/
def DInv (a d q r : Int) : Prop := dq a d ≤ q ∧ q ≤ 4294967296 ∧ a = q * 4294967295 + r ∧ 0 ≤ r ∧ r < 4294967296 ∧ 0 ≤ q
theorem dinv_start {a d : Int} (h0 : 0 ≤ a) (h1 : a < 18446744069414584321) (h2 : 0 ≤ d) (h3 : d < 4294967296) : DInv a d (a / 4294967295) (a % 4294967295) := by
  unfold DInv dq; omega
theorem dinv_next {a d q r : Int} (h : DInv a d q r) (h1 : a < 18446744069414584321) (h2 : 0 ≤ d) (h3 : d < 4294967296) (ht : 4294967296 ≤ q ∨ 4294967296 * r + d < q) (hr : r + 4294967295 < 4294967296) : DInv a d (q - 1) (r + 4294967295) := by
  unfold DInv dq at *; omega
theorem dinv_break {a d q r : Int} (h : DInv a d q r) (h1 : a < 18446744069414584321) (h2 : 0 ≤ d) (h3 : d < 4294967296) (ht : 4294967296 ≤ q ∨ 4294967296 * r + d < q) (hr : 4294967296 ≤ r + 4294967295) : q - 1 = dq a d := by
  unfold DInv dq at *; omega
theorem dinv_end {a d q r : Int} (h : DInv a d q r) (h2 : 0 ≤ d) (h3 : d < 4294967296) (hq : q < 4294967296) (ht : q ≤ 4294967296 * r + d) : q = dq a d := by
  unfold DInv dq at *; omega
theorem dinv_pos {a d q r : Int} (h : DInv a d q r) (h2 : 0 ≤ d) (h0 : 0 ≤ a) (ht : 4294967296 ≤ q ∨ 4294967296 * r + d < q) : 1 ≤ q := by
  unfold DInv dq at *; omega
theorem dr_bound (a d : Int) : 0 ≤ dr a d ∧ dr a d < 18446744069414584321 := by unfold dr; omega
theorem dq_bound {a d : Int} (h0 : 0 ≤ a) (h1 : a < 18446744069414584321) (h2 : 0 ≤ d) (h3 : d < 4294967296) : 0 ≤ dq a d ∧ dq a d < 4294967296 := by unfold dq; omega
theorem wrap_rest (a d : Int) : IntKind.u64.wrap (IntKind.u64.wrap (IntKind.u64.wrap (a * 4294967296) + d) - IntKind.u64.wrap (dq a d * 18446744069414584321)) = dr a d := by
  simp only [IntKind.wrap_u64]; unfold dq dr; omega
theorem dinv_shape {a : Int} (h0 : 0 ≤ a) (h1 : a < 18446744069414584321) : IntKind.u64.wrap (a.tdiv 4294967295) = a / 4294967295 ∧ IntKind.u64.wrap (a - IntKind.u64.wrap (a / 4294967295 * 4294967295)) = a % 4294967295 := by
  rw [Int.tdiv_eq_ediv_of_nonneg h0]
  simp only [IntKind.wrap_u64]
  omega
theorem div_two (a b : Int) : dq a (b / 4294967296) * 4294967296 + dq (dr a (b / 4294967296)) (b % 4294967296) = (a * 18446744073709551616 + b) / 18446744069414584321 ∧
    dr (dr a (b / 4294967296)) (b % 4294967296) = (a * 18446744073709551616 + b) % 18446744069414584321 := by
  unfold dq dr; omega
theorem and_low {b : Int} (h0 : 0 ≤ b) (h1 : b < 18446744073709551616) : bits .and .u64 b 4294967295 = b % 4294967296 := by
  obtain ⟨n, rfl⟩ := Int.eq_ofNat_of_zero_le h0
  have h := bits_and_u64_nat n 4294967295 (by omega) (by omega)
  have e : n &&& 4294967295 = n % 4294967296 := Nat.and_two_pow_sub_one_eq_mod n 32
  rw [e] at h
  exact h
theorem and_P : bits .and .u64 18446744069414584321 4294967295 = 1 := by
  rw [and_low (by omega) (by omega)]; rfl
theorem or_none {a b : Int} (h0 : 0 ≤ a) (h1 : a < 18446744073709551616) (h2 : 0 ≤ b) (h3 : b < 18446744073709551616) : bits .or .u64 a (b / 18446744073709551616) = a := by
  rw [show b / 18446744073709551616 = 0 from by omega]
  obtain ⟨n, rfl⟩ := Int.eq_ofNat_of_zero_le h0
  have h := bits_or_u64_nat n 0 (by omega) (by omega)
  rw [Nat.or_zero] at h
  exact h
end Go.Proofs.YtebgfelbffgnbaaGreatDoor.F

/-
  Contracts of package gold.
-/
namespace Go.Proofs.YtebgfelbffgnbaaGreatDoor
open Go.RowKit F Flow

theorem below_drewN {B : Nat} {a w : World} (h : Below B a w) (n : Nat) : Below B a (w.drewN n) := ⟨h.os, h.tape, h.output, h.size, h.block⟩
theorem ret_two {a b c d : Int} (h1 : a = c) (h2 : b = d) : Ending.returned (.tuple #[.int .u64 a, .int .u64 b]) = Ending.returned (.tuple #[.int .u64 c, .int .u64 d]) := by rw [h1, h2]

theorem lz_P (w : World) : Calls Tryz.prog 167 #[.int .u64 18446744069414584321] w fun e w' => e = .returned (.int .i64 0) ∧ w = w' := by
  have h := Tryz.bits_LeadingZeros64 18446744069414584321 w (by omega) (by omega)
  rw [show (64 : Int) - (Lib.bitLen (18446744069414584321 : Int).toNat : Int) = 0 from by decide +kernel] at h
  exact h.mono fun _ _ hh => ⟨hh.1, hh.2.symm⟩

set_option maxHeartbeats 1000000 in
theorem div_P (a b : Int) (h0 : 0 < a) (h1 : a < 18446744069414584321) (h2 : 0 ≤ b) (h3 : b < 18446744073709551616) (w : World) :
    Calls Tryz.prog 161 #[.int .u64 a, .int .u64 b, .int .u64 18446744069414584321] w fun e w' => e = .returned (.tuple #[.int .u64 ((a * 18446744073709551616 + b) / 18446744069414584321), .int .u64 ((a * 18446744073709551616 + b) % 18446744069414584321)]) ∧ Below w.heap.size w w' := by
  have hz : (a == 0) = false := by simp; omega
  go_enter Tryz.func161, Tryz.ntmps161
  go_upto_block 0 with (go_at_call 167; refine (lz_P _).mono ?_; rintro e w' ⟨rfl, rfl⟩)
  have hd0 : 0 ≤ b / 4294967296 := by omega
  have hd1 : b / 4294967296 < 4294967296 := by omega
  obtain ⟨s1, s2⟩ := dinv_shape (a := a) (by omega) h1
  simp only [and_P, or_none (a := a) (b := b) (by omega) (by omega) h2 h3, and_low h2 h3, s1, s2]
  clear s1 s2
  generalize hd : b / 4294967296 = d at *
  have he0 : 0 ≤ b % 4294967296 := by omega
  have he1 : b % 4294967296 < 4294967296 := by omega
  generalize he : b % 4294967296 = e at *
  go_cut [15, 16] (fun q r w' => q = .int .u64 (dq a d) ∧ w' = w)
  case first =>
    go_wp2
    go_loop [15, 16] (fun q r => ∃ Q R : Int, q = .int .u64 Q ∧ r = .int .u64 R ∧ DInv (a) (d) Q R) (fun q _ => (intOf q).toNat)
    case atStart => exact ⟨_, _, rfl, rfl, dinv_start (by omega) h1 hd0 hd1⟩
    case round =>
      obtain ⟨q, r, rfl, rfl, hi⟩ := hrel
      obtain ⟨i1, i2, i3, i4, i5, i6⟩ := id hi
      replace i3 := Lib.hid i3
      clear i1
      by_cases t1 : 4294967296 ≤ q ∨ 4294967296 * r + d < q
      · have hq1 := dinv_pos hi hd0 (by omega) t1
        by_cases t3 : r + 4294967295 < 4294967296
        · have hn := dinv_next hi h1 hd0 hd1 t1 t3
          rcases t1 with t1 | t1
          · go_wp2
            go_round
            case rel => exact ⟨_, _, rfl, rfl, hn⟩
            case measure => simp [intOf]; omega
          · by_cases t2 : 4294967296 ≤ q
            · go_wp2
              go_round
              case rel => exact ⟨_, _, rfl, rfl, hn⟩
              case measure => simp [intOf]; omega
            · go_wp2
              go_round
              case rel => exact ⟨_, _, rfl, rfl, hn⟩
              case measure => simp [intOf]; omega
        · have hn := Lib.hid (dinv_break hi h1 hd0 hd1 t1 (by omega))
          rcases t1 with t1 | t1
          · go_wp2
            go_meet
            case rel => exact ⟨by rw [hn.out], rfl⟩
          · by_cases t2 : 4294967296 ≤ q
            all_goals go_wp2
            all_goals go_meet
            all_goals exact ⟨by rw [hn.out], rfl⟩
      · have t2 : ¬ 4294967296 ≤ q := by omega
        have t4 : ¬ 4294967296 * r + d < q := by omega
        have hn := Lib.hid (dinv_end hi hd0 hd1 (by omega) (by omega))
        go_wp2
        go_meet
        case rel => exact ⟨by rw [hn.out], rfl⟩
  case rest =>
    obtain ⟨rfl, rfl⟩ := hcut
    go_upto_block 2 with (fail)
    obtain ⟨hr0, hr1⟩ := dr_bound a d
    obtain ⟨s1, s2⟩ := dinv_shape hr0 hr1
    simp only [wrap_rest, s1, s2]
    clear s1 s2
    have hfin := Lib.hid (div_two a b)
    rw [hd, he] at hfin
    have hdq := dq_bound (a := a) (d := d) (by omega) h1 hd0 hd1
    have hdq2 := dq_bound (a := dr a d) (d := e) (by omega) hr1 he0 he1
    have hy := Lib.hid h1
    clear h1 hd0 hd1 hd he
    have h1 := hr1
    have hd0 := he0
    have hd1 := he1
    generalize hA : dr a d = A at *
    go_cut [18, 16] (fun q r w' => q = .int .u64 (dq A e) ∧ w' = wc)
    case first =>
      go_wp2
      go_loop [18, 16] (fun q r => ∃ Q R : Int, q = .int .u64 Q ∧ r = .int .u64 R ∧ DInv (A) (e) Q R) (fun q _ => (intOf q).toNat)
      case atStart => exact ⟨_, _, rfl, rfl, dinv_start (by omega) h1 hd0 hd1⟩
      case round =>
        obtain ⟨q, r, rfl, rfl, hi⟩ := hrel
        obtain ⟨i1, i2, i3, i4, i5, i6⟩ := id hi
        replace i3 := Lib.hid i3
        clear i1
        by_cases t1 : 4294967296 ≤ q ∨ 4294967296 * r + e < q
        · have hq1 := dinv_pos hi hd0 (by omega) t1
          by_cases t3 : r + 4294967295 < 4294967296
          · have hn := dinv_next hi h1 hd0 hd1 t1 t3
            rcases t1 with t1 | t1
            · go_wp2
              go_round
              case rel => exact ⟨_, _, rfl, rfl, hn⟩
              case measure => simp [intOf]; omega
            · by_cases t2 : 4294967296 ≤ q
              · go_wp2
                go_round
                case rel => exact ⟨_, _, rfl, rfl, hn⟩
                case measure => simp [intOf]; omega
              · go_wp2
                go_round
                case rel => exact ⟨_, _, rfl, rfl, hn⟩
                case measure => simp [intOf]; omega
          · have hn := Lib.hid (dinv_break hi h1 hd0 hd1 t1 (by omega))
            rcases t1 with t1 | t1
            · go_wp2
              go_meet
              case rel => exact ⟨by rw [hn.out], rfl⟩
            · by_cases t2 : 4294967296 ≤ q
              all_goals go_wp2
              all_goals go_meet
              all_goals exact ⟨by rw [hn.out], rfl⟩
        · have t2 : ¬ 4294967296 ≤ q := by omega
          have t4 : ¬ 4294967296 * r + e < q := by omega
          have hn := Lib.hid (dinv_end hi hd0 hd1 (by omega) (by omega))
          go_wp2
          go_meet
          case rel => exact ⟨by rw [hn.out], rfl⟩
    case rest =>
      obtain ⟨rfl, rfl⟩ := hcut
      go_wp2
      go_ret2
      exact ⟨ret_two hfin.out.1 ((wrap_rest A e).trans hfin.out.2), Below.refl _ _⟩

set_option maxHeartbeats 1000000 in
theorem div_P0 (b : Int) (h2 : 0 ≤ b) (h3 : b < 18446744073709551616) (w : World) :
    Calls Tryz.prog 161 #[.int .u64 0, .int .u64 b, .int .u64 18446744069414584321] w fun e w' => e = .returned (.tuple #[.int .u64 (b / 18446744069414584321), .int .u64 (b % 18446744069414584321)]) ∧ Below w.heap.size w w' := by
  have hq : b.tdiv 18446744069414584321 = b / 18446744069414584321 := Int.tdiv_eq_ediv_of_nonneg h2
  have hr : b.tmod 18446744069414584321 = b % 18446744069414584321 := Int.tmod_eq_emod_of_nonneg h2
  go_enter Tryz.func161, Tryz.ntmps161
  go_wp2
  go_quiet (fail)
  go_wp2
  go_ret2
  exact ⟨ret_two (by first | rfl | exact hq) (by first | rfl | exact hr), below_drewN (Below.refl _ _) _⟩

theorem divmod_rem (a b : Int) : (a % 18446744069414584321 * 18446744073709551616 + b) % 18446744069414584321 = (a * 18446744073709551616 + b) % 18446744069414584321 := by omega

theorem div_any (a b : Int) (h0 : 0 ≤ a) (h1 : a < 18446744069414584321) (h2 : 0 ≤ b) (h3 : b < 18446744073709551616) (w : World) :
    Calls Tryz.prog 161 #[.int .u64 a, .int .u64 b, .int .u64 18446744069414584321] w fun e w' => e = .returned (.tuple #[.int .u64 ((a * 18446744073709551616 + b) / 18446744069414584321), .int .u64 ((a * 18446744073709551616 + b) % 18446744069414584321)]) ∧ Below w.heap.size w w' := by
  by_cases ha : a = 0
  · subst ha
    rw [Int.zero_mul, Int.zero_add]
    exact div_P0 b h2 h3 w
  · exact div_P a b (by omega) h1 h2 h3 w

theorem rem_any (a b : Int) (h0 : 0 ≤ a) (h1 : a < 18446744073709551616) (h2 : 0 ≤ b) (h3 : b < 18446744073709551616) (w : World) :
    Calls Tryz.prog 149 #[.int .u64 a, .int .u64 b, .int .u64 18446744069414584321] w fun e w' => e = .returned (.int .u64 ((a * 18446744073709551616 + b) % 18446744069414584321)) ∧ Below w.heap.size w w' := by
  have hm0 : 0 ≤ a % 18446744069414584321 := by omega
  have hm1 : a % 18446744069414584321 < 18446744069414584321 := by omega
  rw [← divmod_rem]
  go_enter Tryz.func149, Tryz.ntmps149
  go_wp2_with fail
  refine call_then (div_any _ b hm0 hm1 h2 h3 _) ?_
  intro w1 hw1
  go_wp2
  go_ret
  exact ⟨rfl, hw1⟩
end Go.Proofs.YtebgfelbffgnbaaGreatDoor

/-
  Contracts of package gold: sums, differences, products, powers.
-/
namespace Go.Proofs.YtebgfelbffgnbaaGreatDoor
open Go.RowKit F Flow

theorem ret_u64 {a c : Int} (h1 : a = c) : Ending.returned (.int .u64 a) = Ending.returned (.int .u64 c) := by rw [h1]

theorem gof_any (a : Int) (h0 : 0 ≤ a) (h1 : a < 18446744073709551616) (w : World) :
    Calls Tryz.prog 105 #[.int .u64 a] w fun e w' => e = .returned (.int .u64 (redu 1 a)) ∧ w = w' := by
  by_cases h : 18446744069414584321 ≤ a
  · have e := Lib.hid (gredu_big h h1)
    go_enter Tryz.func105, Tryz.ntmps105
    go_wp2
    go_ret
    exact ⟨ret_u64 e.out.symm, rfl⟩
  · have e := Lib.hid (gredu_small h0 (by omega))
    go_enter Tryz.func105, Tryz.ntmps105
    go_wp2
    go_ret
    exact ⟨ret_u64 e.out.symm, rfl⟩

theorem gin_any (a : Int) (w : World) :
    Calls Tryz.prog 168 #[.int .u64 a] w fun e w' => e = .returned (.bool (decide (a < 18446744069414584321))) ∧ w = w' := by
  go_enter Tryz.func168, Tryz.ntmps168
  go_wp2
  go_ret
  exact ⟨rfl, rfl⟩

theorem gneg_any (a : Int) (h0 : 0 ≤ a) (h1 : a < 18446744073709551616) (w : World) :
    Calls Tryz.prog 141 #[.int .u64 a] w fun e w' => e = .returned (.int .u64 (neg 1 a)) ∧ w = w' := by
  have b0 := redu_nonneg 1 a
  have b1 := redu_lt 1 a
  rw [M1] at b1
  by_cases h : redu 1 a = 0
  · have e := (neg_zero h).trans h
    replace e := Lib.hid e
    have hd : (redu 1 a == 0) = true := by simpa using h
    clear h
    go_enter Tryz.func141, Tryz.ntmps141
    go_wp2_with (go_at_call 105; refine (gof_any a h0 h1 _).mono ?_; rintro e w' ⟨rfl, rfl⟩)
    go_ret
    exact ⟨ret_u64 e.out.symm, rfl⟩
  · have e := neg_pos h
    rw [M1] at e
    replace e := Lib.hid e
    have hd : (redu 1 a == 0) = false := by simpa using h
    clear h
    go_enter Tryz.func141, Tryz.ntmps141
    go_wp2_with (go_at_call 105; refine (gof_any a h0 h1 _).mono ?_; rintro e w' ⟨rfl, rfl⟩)
    go_ret
    exact ⟨ret_u64 e.out.symm, rfl⟩

theorem gsub_any (a b : Int) (h0 : 0 ≤ a) (h1 : a < 18446744073709551616) (h2 : 0 ≤ b) (h3 : b < 18446744073709551616) (w : World) :
    Calls Tryz.prog 129 #[.int .u64 a, .int .u64 b] w fun e w' => e = .returned (.int .u64 (sub 1 a b)) ∧ w = w' := by
  have a0 := redu_nonneg 1 a
  have a1 := redu_lt 1 a
  have b0 := redu_nonneg 1 b
  have b1 := redu_lt 1 b
  rw [M1] at a1 b1
  by_cases h : redu 1 a < redu 1 b
  · have e := Lib.hid (gsub_less h)
    go_enter Tryz.func129, Tryz.ntmps129
    go_wp2_with (first | (go_at_call 105; refine (gof_any _ (by assumption) (by assumption) _).mono ?_; rintro e w' ⟨rfl, rfl⟩))
    go_ret
    exact ⟨ret_u64 e.out.symm, rfl⟩
  · have e := Lib.hid (gsub_more (by omega : redu 1 b ≤ redu 1 a))
    go_enter Tryz.func129, Tryz.ntmps129
    go_wp2_with (first | (go_at_call 105; refine (gof_any _ (by assumption) (by assumption) _).mono ?_; rintro e w' ⟨rfl, rfl⟩))
    go_ret
    exact ⟨ret_u64 e.out.symm, rfl⟩

theorem gadd_any (a b : Int) (h0 : 0 ≤ a) (h1 : a < 18446744073709551616) (h2 : 0 ≤ b) (h3 : b < 18446744073709551616) (w : World) :
    Calls Tryz.prog 119 #[.int .u64 a, .int .u64 b] w fun e w' => e = .returned (.int .u64 (add 1 a b)) ∧ w = w' := by
  have hn := neg_bound 1 b
  rw [M1] at hn
  have e := Lib.hid (gadd_eq a b)
  go_enter Tryz.func119, Tryz.ntmps119
  go_wp2_with (first
    | (go_at_call 141; refine (gneg_any b h2 h3 _).mono ?_; rintro e w' ⟨rfl, rfl⟩)
    | (go_at_call 129; refine (gsub_any a (neg 1 b) h0 h1 hn.1 (by omega) _).mono ?_; rintro e w' ⟨rfl, rfl⟩))
  go_ret
  exact ⟨ret_u64 e.out, rfl⟩

set_option maxHeartbeats 1000000 in
theorem gmul_nat (x y : Nat) (hx : x < 18446744073709551616) (hy : y < 18446744073709551616) (w : World) :
    Calls Tryz.prog 126 #[.int .u64 x, .int .u64 y] w fun e w' => e = .returned (.int .u64 (mul 1 x y)) ∧ Below w.heap.size w w' := by
  have e := gmul_eq x y hx hy
  have hhi : x * y / 18446744073709551616 < 18446744073709551616 := mul_high hx hy
  have hlo : x * y % 18446744073709551616 < 18446744073709551616 := Nat.mod_lt _ (by omega)
  have hm := Tryz.bits_Mul64 x y hx hy
  generalize x * y / 18446744073709551616 = p at *
  generalize x * y % 18446744073709551616 = q at *
  replace e := Lib.hid e
  go_enter Tryz.func126, Tryz.ntmps126
  go_wp2_with (go_at_call 148; refine (hm _).mono ?_; rintro e w' ⟨rfl, hw⟩; rw [hw])
  refine call_then (rem_any p q (by omega) (by omega) (by omega) (by omega) _) ?_
  intro w1 hw1
  go_wp2
  go_ret
  exact ⟨ret_u64 e.out, hw1⟩

theorem gmul_any (a b : Int) (h0 : 0 ≤ a) (h1 : a < 18446744073709551616) (h2 : 0 ≤ b) (h3 : b < 18446744073709551616) (w : World) :
    Calls Tryz.prog 126 #[.int .u64 a, .int .u64 b] w fun e w' => e = .returned (.int .u64 (mul 1 a b)) ∧ Below w.heap.size w w' := by
  obtain ⟨x, rfl⟩ := Int.eq_ofNat_of_zero_le h0
  obtain ⟨y, rfl⟩ := Int.eq_ofNat_of_zero_le h2
  exact gmul_nat x y (by omega) (by omega) w


set_option maxHeartbeats 1000000 in
theorem gpow_any (a n : Int) (h0 : 0 ≤ a) (h1 : a < 18446744073709551616) (h2 : 0 ≤ n) (h3 : n < 18446744073709551616) (w : World) :
    Calls Tryz.prog 97 #[.int .u64 a, .int .u64 n] w fun e w' => e = .returned (.int .u64 (pow 1 a n.toNat)) ∧ Below w.heap.size w w' := by
  go_enter Tryz.func97, Tryz.ntmps97
  go_wp2
  go_loopw [0, 1, 5] (fun b m p wr => ∃ B N Q : Int, b = .int .u64 B ∧ m = .int .u64 N ∧ p = .int .u64 Q ∧ PowInv a n Q B N ∧ Below w.heap.size w wr) (fun _ m _ _ => (intOf m).toNat)
  case atStart => exact ⟨a, n, 1, rfl, rfl, rfl, powinv_start h0 h1 h2 h3, Below.refl _ _⟩
  case round =>
    obtain ⟨b, m, p, rfl, rfl, rfl, hi, hb⟩ := hrel
    obtain ⟨i1, i2, i3, i4, i5, i6, i7⟩ := id hi
    rw [M1] at i3
    clear i1
    have hbb := mul_bound 1 b b
    have hpb := mul_bound 1 p b
    rw [M1] at hbb hpb
    by_cases hm : 0 < m
    · have hbit : bits .and .u64 m 1 = m % 2 := and_one i6 i7
      by_cases hodd : m % 2 = 1
      · have ho : (bits .and .u64 m 1 == 1) = true := by rw [hbit, hodd]; rfl
        have hn := powinv_odd hi hm hodd
        clear hbit hodd
        go_wp2_with fail
        refine call_then (gmul_any p b i2 (by omega) i4 i5 _) ?_
        intro w1 hw1
        replace hb := below_next hb hb.size hw1
        clear hw1
        go_wp2_with fail
        refine call_then (gmul_any b b i4 i5 i4 i5 _) ?_
        intro w2 hw2
        replace hb := below_next hb hb.size hw2
        clear hw2
        go_wp2
        go_roundw
        case rel => exact ⟨_, _, _, rfl, rfl, rfl, hn, hb⟩
        case measure => simp [intOf]; omega
      · have ho : (bits .and .u64 m 1 == 1) = false := by rw [hbit]; simpa using hodd
        have hn := powinv_even hi hm (by omega)
        clear hbit hodd
        go_wp2_with fail
        refine call_then (gmul_any b b i4 i5 i4 i5 _) ?_
        intro w2 hw2
        replace hb := below_next hb hb.size hw2
        clear hw2
        go_wp2
        go_roundw
        case rel => exact ⟨_, _, _, rfl, rfl, rfl, hn, hb⟩
        case measure => simp [intOf]; omega
    · have hn := Lib.hid (powinv_end hi (by omega))
      go_wp2
      go_ret
      exact ⟨ret_u64 hn.out, hb⟩
end Go.Proofs.YtebgfelbffgnbaaGreatDoor

/-
  The last step of a law whose walk makes new memory alone.
-/
namespace Go.Proofs.YtebgfelbffgnbaaGreatDoor
open Go.RowKit Go.WideShapes Go.ChangeShapes
section
variable {H : Type} {enc : TypeId × Value → H} {P : Program}
theorem post_of_below {f : Func} {s : ChangeSpec} {apart fresh handsOn again : Bool} {W W' : World} {args : Array Value} {v : Value} {ds gs : List (DataW H)} {before pa pv : List MemPlace}
    (hW : DataW.Whole enc P f.params.toList s.vars apart W args.toList ds gs before)
    (hres : ∀ (b : Nat) (sp : Nat → Bool) (hd : Bool), DataW.TrodAll enc P W' b sp hd f.resultTypes.toList (v.resultList f.resultTypes.size) (s.fn H (ds ++ gs)).results [])
    (hargs : ∀ sp : Nat → Bool, (∀ p ∈ before, sp p.block = true) → DataW.TrodAll enc P W' 0 sp true f.params.toList args.toList (s.fn H (ds ++ gs)).args pa)
    (hvars : ∀ sp : Nat → Bool, (∀ p ∈ before, sp p.block = true) → DataW.TrodVars enc P W' sp s.vars (s.fn H (ds ++ gs)).vars pv)
    (hps : before = pa ++ pv) (hb : Below W.heap.size W W')
    (hok : ∀ (j : Nat) (t : TypeId) (r : Value), f.resultTypes[j]? = some t → (v.resultList f.resultTypes.size)[j]? = some r → Value.okWide P W' .any 0 t r) :
    s.post enc P f apart fresh handsOn again W args v W' := by
  have hlt : ∀ p ∈ before, p.block < W.heap.size := fun p hp => hW.lt p hp
  have hold : ∀ p ∈ before, (fun b => decide (b < W.heap.size)) p.block = true := fun p hp => by simpa using hlt p hp
  refine ⟨ds, gs, before, [], pa, pv, hW, hres _ _ _, hargs _ hold, hvars _ hold, World.keptBut_mono (fun p hp => ⟨hp, ?_⟩) (hb.frame (· ∈ before)), fun _ => ?_⟩
  · rw [hps, List.mem_append] at hp
    exact Or.inr hp
  · obtain ⟨_, _, _, _, _, hz, hn⟩ := hW
    refine ⟨hok, _, _, ([] ++ pa) ++ pv, ⟨[] ++ pa, pv, trodAll_append (hargs _ (fun _ _ => rfl)) (hres _ _ _), hvars _ (fun _ _ => rfl), rfl, ?_, ?_⟩, ?_⟩
    · intro b off hp
      have hin : MemPlace.cell b off ∈ before := by rw [hps]; simpa using hp
      rw [hb.frozen (hlt _ hin)]
      exact hz b off hin
    · intro ha
      have := hn ha
      rw [hps] at this
      simpa using this
    · intro p hp _
      rw [hps]
      simpa using hp
end
end Go.Proofs.YtebgfelbffgnbaaGreatDoor

/-
  What all laws of layer 1 lean on: the reference's answers for numbers of one word.
-/
namespace Go.Proofs.YtebgfelbffgnbaaGreatDoor
open Go.ChangeShapes Go.WideShapes Go.ChangeAt Go.RowKit F Flow
set_option linter.unusedVariables false
attribute [local go_sem] eql_elem

theorem wf_u64 {a : Int} (h : (Lit.int .u64 a).wf = true) : 0 ≤ a ∧ a < 18446744073709551616 := by
  have : 0 ≤ a ∧ a ≤ 18446744073709551615 := by simpa [Lit.wf, IntKind.min, IntKind.max, IntKind.signed, IntKind.bits] using h
  omega

theorem redu1_bound (a : Int) : 0 ≤ redu 1 a ∧ redu 1 a < 18446744073709551616 := by
  have b0 := redu_nonneg 1 a
  have b1 := redu_lt 1 a
  rw [M1] at b1
  omega
theorem below_of_same {w w' : World} (h : w = w') : Below w.heap.size w w' := h ▸ Below.refl _ _
end Go.Proofs.YtebgfelbffgnbaaGreatDoor

/-
  Fermat's little theorem and Proth's test, from the beginning: for the two moduli.
-/
namespace Go.Proofs.YtebgfelbffgnbaaGreatDoor.Prime
set_option linter.unusedVariables false

def IsPrime (p : Nat) : Prop := 2 ≤ p ∧ ∀ d, d ∣ p → d = 1 ∨ d = p

theorem exists_prime : ∀ (n : Nat), 2 ≤ n → ∃ p, IsPrime p ∧ p ∣ n := by
  intro n
  induction n using Nat.strongRecOn with
  | _ n ih =>
    intro h
    by_cases hp : IsPrime n
    · exact ⟨n, hp, Nat.dvd_refl n⟩
    · have : ∃ d, d ∣ n ∧ d ≠ 1 ∧ d ≠ n := by
        apply Classical.byContradiction
        intro hn
        refine hp ⟨h, fun d hd => ?_⟩
        by_cases h1 : d = 1
        · exact .inl h1
        · by_cases h2 : d = n
          · exact .inr h2
          · exact absurd ⟨d, hd, h1, h2⟩ hn
      obtain ⟨d, hd, h1, h2⟩ := this
      have hpos : 0 < d := Nat.pos_of_dvd_of_pos hd (by omega)
      have hle := Nat.le_of_dvd (by omega) hd
      obtain ⟨p, hp, hpd⟩ := ih d (by omega) (by omega)
      exact ⟨p, hp, Nat.dvd_trans hpd hd⟩

theorem coprime_of {p a : Nat} (hp : IsPrime p) (h : ¬ p ∣ a) : Nat.Coprime p a := by
  have hd : Nat.gcd p a ∣ p := Nat.gcd_dvd_left p a
  rcases hp.2 _ hd with h1 | h1
  · exact h1
  · exact absurd (h1 ▸ Nat.gcd_dvd_right p a) h
theorem dvd_mul {p a b : Nat} (hp : IsPrime p) (h : p ∣ a * b) : p ∣ a ∨ p ∣ b := by
  by_cases ha : p ∣ a
  · exact .inl ha
  · exact .inr ((coprime_of hp ha).dvd_of_dvd_mul_left h)

/-- Binomial coefficients. -/
def choose : Nat → Nat → Nat
  | _, 0 => 1
  | 0, _ + 1 => 0
  | n + 1, k + 1 => choose n k + choose n (k + 1)
theorem choose_zero (n : Nat) : choose n 0 = 1 := by cases n <;> rfl
theorem choose_gt : ∀ (n k : Nat), n < k → choose n k = 0
  | 0, k + 1, _ => rfl
  | n + 1, k + 1, h => by
    show choose n k + choose n (k + 1) = 0
    rw [choose_gt n k (by omega), choose_gt n (k + 1) (by omega)]
theorem choose_self (n : Nat) : choose n n = 1 := by
  induction n with
  | zero => rfl
  | succ n ih => show choose n n + choose n (n + 1) = 1; rw [ih, choose_gt n (n + 1) (by omega)]
theorem choose_mul (n k : Nat) : (k + 1) * choose (n + 1) (k + 1) = (n + 1) * choose n k := by
  induction n generalizing k with
  | zero =>
    cases k with
    | zero => rfl
    | succ k => show (k + 2) * (choose 0 (k + 1) + choose 0 (k + 2)) = 1 * choose 0 (k + 1); rfl
  | succ n ih =>
    show (k + 1) * (choose (n + 1) k + choose (n + 1) (k + 1)) = (n + 2) * choose (n + 1) k
    have h1 := ih k
    cases k with
    | zero =>
      have e : choose (n + 1) 0 = 1 := rfl
      have e2 : choose n 0 = 1 := choose_zero n
      rw [e2] at h1
      rw [e]
      omega
    | succ k =>
      have h2 := ih k
      have e : choose (n + 1) (k + 1) = choose n k + choose n (k + 1) := rfl
      rw [Nat.mul_add, h1]
      have h3 : (k + 1 + 1) * choose (n + 1) (k + 1) = (n + 1) * choose n k + choose (n + 1) (k + 1) := by rw [Nat.add_mul (k + 1) 1, h2, Nat.one_mul]
      rw [h3, show n + 2 = (n + 1) + 1 from rfl, Nat.add_mul (n + 1) 1, Nat.one_mul, e, Nat.mul_add]
      omega
/-- The sum of the first k terms of (a + 1)^n. -/
def terms (a n : Nat) : Nat → Nat
  | 0 => 0
  | k + 1 => terms a n k + choose n k * a ^ k
theorem terms_succ (a n k : Nat) : terms a (n + 1) (k + 1) = terms a n (k + 1) + a * terms a n k := by
  induction k with
  | zero => simp [terms, choose_zero]
  | succ k ih =>
    show terms a (n + 1) (k + 1) + choose (n + 1) (k + 1) * a ^ (k + 1) = terms a n (k + 1) + choose n (k + 1) * a ^ (k + 1) + a * (terms a n k + choose n k * a ^ k)
    rw [ih, show choose (n + 1) (k + 1) = choose n k + choose n (k + 1) from rfl, Nat.add_mul, Nat.mul_add, Nat.pow_succ]
    have : a * (choose n k * a ^ k) = choose n k * (a ^ k * a) := by rw [Nat.mul_comm a, Nat.mul_assoc]
    omega
theorem binomial (a n : Nat) : (a + 1) ^ n = terms a n (n + 1) := by
  induction n with
  | zero => simp [terms, choose]
  | succ n ih =>
    rw [terms_succ, Nat.pow_succ, ih, Nat.mul_add, Nat.mul_one]
    show terms a n (n + 1) * a + terms a n (n + 1) = terms a n (n + 1) + choose n (n + 1) * a ^ (n + 1) + a * terms a n (n + 1)
    rw [choose_gt n (n + 1) (by omega), Nat.mul_comm]
    omega
theorem dvd_choose {p k : Nat} (hp : IsPrime p) (h0 : 0 < k) (h : k < p) : p ∣ choose p k := by
  obtain ⟨n, rfl⟩ : ∃ n, p = n + 1 := ⟨p - 1, by omega⟩
  obtain ⟨j, rfl⟩ : ∃ j, k = j + 1 := ⟨k - 1, by omega⟩
  have h1 : n + 1 ∣ (j + 1) * choose (n + 1) (j + 1) := ⟨choose n j, choose_mul n j⟩
  rcases dvd_mul hp h1 with h2 | h2
  · exact absurd (Nat.le_of_dvd (by omega) h2) (by omega)
  · exact h2
theorem terms_mod {p a : Nat} (hp : IsPrime p) : ∀ k, 1 ≤ k → k ≤ p → terms a p k % p = 1 % p
  | 1, _, _ => by simp [terms, choose_zero]
  | k + 2, _, h => by
    show (terms a p (k + 1) + choose p (k + 1) * a ^ (k + 1)) % p = 1 % p
    rw [Nat.add_mod, terms_mod hp (k + 1) (by omega) (by omega), Nat.mod_eq_zero_of_dvd (Nat.dvd_trans (dvd_choose hp (by omega) (by omega)) (Nat.dvd_mul_right _ _))]
    simp
/-- Fermat: a^p is a, modulo a prime p. -/
theorem fermat {p : Nat} (hp : IsPrime p) (a : Nat) : a ^ p % p = a % p := by
  induction a with
  | zero => rw [Nat.zero_pow (by have := hp.1; omega)]
  | succ a ih =>
    rw [binomial]
    show (terms a p p + choose p p * a ^ p) % p = (a + 1) % p
    rw [choose_self, Nat.one_mul, Nat.add_mod, terms_mod hp p (by have := hp.1; omega) (Nat.le_refl _), ih, ← Nat.add_mod, Nat.add_comm]
theorem dvd_sub_of_mod {n a b : Nat} (h : a % n = b % n) (hab : b ≤ a) : n ∣ a - b := Nat.dvd_of_mod_eq_zero (Nat.sub_mod_eq_zero_of_mod_eq h)
theorem fermat_one {p a : Nat} (hp : IsPrime p) (h : ¬ p ∣ a) : a ^ (p - 1) % p = 1 := by
  have h0 : 1 ≤ a := by
    rcases Nat.eq_zero_or_pos a with h1 | h1
    · subst h1; exact absurd (Nat.dvd_zero p) h
    · exact h1
  have h2 := hp.1
  have h1 : p ∣ a * (a ^ (p - 1) - 1) := by
    rw [Nat.mul_sub, Nat.mul_one, ← Nat.pow_succ', show (p - 1).succ = p by omega]
    exact dvd_sub_of_mod (fermat hp a) (Nat.le_self_pow (by omega) a)
  have h3 : p ∣ a ^ (p - 1) - 1 := (coprime_of hp h).dvd_of_dvd_mul_left h1
  have h4 : 1 ≤ a ^ (p - 1) := Nat.one_le_pow _ _ h0
  obtain ⟨c, hc⟩ := h3
  rw [show a ^ (p - 1) = 1 + p * c by omega, Nat.add_mul_mod_self_left]
  exact Nat.mod_eq_of_lt (by omega)

/-- Powers that are 1 are so at the greatest common divisor. -/
theorem pow_gcd {n t : Nat} (hn : 1 < n) (hc : Nat.Coprime t n) : ∀ (a b : Nat), t ^ a % n = 1 → t ^ b % n = 1 → t ^ Nat.gcd a b % n = 1 := by
  intro a
  induction a using Nat.strongRecOn with
  | _ a ih =>
    intro b ha hb
    rcases Nat.eq_zero_or_pos a with h | h
    · subst h; rwa [Nat.gcd_zero_left]
    · rw [Nat.gcd_rec]
      refine ih (b % a) (Nat.mod_lt _ h) a ?_ ha
      have e : t ^ b % n = t ^ (b % a) % n := by
        conv => lhs; rw [← Nat.div_add_mod b a, Nat.pow_add, Nat.pow_mul]
        rw [Nat.mul_mod, Nat.pow_mod, ha, Nat.one_pow, Nat.mod_eq_of_lt hn, Nat.one_mul, Nat.mod_mod]
      rw [← e]; exact hb

theorem dvd_two_pow : ∀ (n d : Nat), d ∣ 2 ^ n → ∃ j, j ≤ n ∧ d = 2 ^ j
  | 0, d, h => ⟨0, Nat.le_refl _, Nat.dvd_one.1 h⟩
  | n + 1, d, h => by
    by_cases h2 : 2 ∣ d
    · obtain ⟨e, rfl⟩ := h2
      rw [Nat.pow_succ'] at h
      obtain ⟨j, hj, he⟩ := dvd_two_pow n e (Nat.dvd_of_mul_dvd_mul_left (by omega) h)
      exact ⟨j + 1, by omega, by rw [he, Nat.pow_succ']⟩
    · have hc : Nat.Coprime d 2 := by
        have h3 : Nat.gcd d 2 ∣ 2 := Nat.gcd_dvd_right d 2
        have h4 := Nat.le_of_dvd (by omega) h3
        have h5 : 0 < Nat.gcd d 2 := Nat.gcd_pos_of_pos_right _ (by omega)
        have h6 : Nat.gcd d 2 ≠ 2 := fun e => h2 (e ▸ Nat.gcd_dvd_left d 2)
        show Nat.gcd d 2 = 1
        omega
      rw [Nat.pow_succ'] at h
      obtain ⟨j, hj, he⟩ := dvd_two_pow n d (hc.dvd_of_dvd_mul_left h)
      exact ⟨j, by omega, he⟩

/-- Proth: if 2^n is above the root of q 2^n + 1, and some g to half of q 2^n is less one, then it is prime. -/
theorem proth {P q n g : Nat} (hP : P = q * 2 ^ (n + 1) + 1) (hn : P < 2 ^ (n + 1) * 2 ^ (n + 1)) (hq : 0 < q) (hg : g ^ (q * 2 ^ n) % P = P - 1) : IsPrime P := by
  have h2n : 0 < 2 ^ n := Nat.two_pow_pos n
  have hs : 2 ^ (n + 1) = 2 * 2 ^ n := Nat.pow_succ'
  have hP3 : 3 ≤ P := by
    have : 1 * 2 ^ (n + 1) ≤ q * 2 ^ (n + 1) := Nat.mul_le_mul_right _ hq
    omega
  refine ⟨by omega, fun d hd => Classical.byContradiction fun hno => ?_⟩
  have hd1 : d ≠ 1 := fun h => hno (.inl h)
  have hdP : d ≠ P := fun h => hno (.inr h)
  obtain ⟨e, he⟩ := hd
  have hd0 : d ≠ 0 := fun h => by rw [h, Nat.zero_mul] at he; omega
  have he0 : e ≠ 0 := fun h => by rw [h, Nat.mul_zero] at he; omega
  have he1 : e ≠ 1 := fun h => by rw [h, Nat.mul_one] at he; exact hdP he.symm
  -- a divisor whose square is not above P
  have hm : ∃ m, 2 ≤ m ∧ m ∣ P ∧ m * m ≤ P := by
    by_cases hle : d ≤ e
    · exact ⟨d, by omega, ⟨e, he⟩, by rw [he]; exact Nat.mul_le_mul_left _ hle⟩
    · exact ⟨e, by omega, ⟨d, by rw [Nat.mul_comm]; exact he⟩, by rw [he]; exact Nat.mul_le_mul_right _ (by omega)⟩
  obtain ⟨m, hm2, hmP, hmm⟩ := hm
  obtain ⟨r, hr, hrm⟩ := exists_prime m hm2
  have hrP : r ∣ P := Nat.dvd_trans hrm hmP
  have hrle : r ≤ m := Nat.le_of_dvd (by omega) hrm
  have hr2 := hr.1
  have hrodd : r ≠ 2 := by
    intro h
    rw [h] at hrP
    have h1 : q * 2 ^ (n + 1) = 2 * (q * 2 ^ n) := by rw [hs, Nat.mul_left_comm]
    omega
  have hgr : g ^ (q * 2 ^ n) % r = r - 1 := by
    have h1 : g ^ (q * 2 ^ n) % r = (P - 1) % r := by rw [← hg, Nat.mod_mod_of_dvd _ hrP]
    rw [h1]
    obtain ⟨c, hc⟩ := hrP
    have hc0 : c ≠ 0 := fun h => by rw [h, Nat.mul_zero] at hc; omega
    obtain ⟨k, rfl⟩ : ∃ k, c = k + 1 := ⟨c - 1, by omega⟩
    have : P - 1 = r - 1 + r * k := by rw [hc, Nat.mul_add, Nat.mul_one]; omega
    rw [this, Nat.add_mul_mod_self_left]
    exact Nat.mod_eq_of_lt (by omega)
  generalize ht : g ^ q = t at *
  have htp : t ^ 2 ^ n % r = r - 1 := by rw [← ht, ← Nat.pow_mul]; exact hgr
  have hrt : ¬ r ∣ t := fun h => by
    have h1 : r ∣ t ^ 2 ^ n := Nat.dvd_trans h ⟨t ^ (2 ^ n - 1), by rw [← Nat.pow_succ']; congr 1; omega⟩
    rw [Nat.mod_eq_zero_of_dvd h1] at htp
    omega
  have hc : Nat.Coprime t r := (coprime_of hr hrt).symm
  have h1 := fermat_one hr hrt
  have h2 : t ^ 2 ^ (n + 1) % r = 1 := by
    rw [hs, Nat.mul_comm, Nat.pow_mul, Nat.pow_mod, htp]
    obtain ⟨k, rfl⟩ : ∃ k, r = k + 2 := ⟨r - 2, by omega⟩
    rw [show k + 2 - 1 = k + 1 by omega, show (k + 1) ^ 2 = 1 + (k + 2) * k by rw [Nat.pow_two]; simp only [Nat.add_mul, Nat.mul_add]; omega, Nat.add_mul_mod_self_left]
    exact Nat.mod_eq_of_lt (by omega)
  have h3 := pow_gcd (by omega) hc _ _ h2 h1
  obtain ⟨j, hj, he⟩ := dvd_two_pow (n + 1) _ (Nat.gcd_dvd_left (2 ^ (n + 1)) (r - 1))
  rw [he] at h3
  have hjn : j = n + 1 := Classical.byContradiction fun hne => by
    have h4 : t ^ 2 ^ n % r = 1 := by
      rw [show n = j + (n - j) by omega, Nat.pow_add, Nat.pow_mul, Nat.pow_mod, h3, Nat.one_pow]
      exact Nat.mod_eq_of_lt (by omega)
    omega
  rw [hjn] at he
  have h5 : 2 ^ (n + 1) ∣ r - 1 := he ▸ Nat.gcd_dvd_right (2 ^ (n + 1)) (r - 1)
  have h6 := Nat.le_of_dvd (by omega) h5
  have h7 : 2 ^ (n + 1) * 2 ^ (n + 1) ≤ m * m := Nat.mul_le_mul (by omega) (by omega)
  omega

/-- Powers modulo p, by squaring: for reckoning. -/
def pmF (p a : Nat) : Nat → Nat → Nat
  | 0, _ => 1 % p
  | f + 1, n => (fun h => if n % 2 = 0 then h * h % p else h * h % p * a % p) (pmF p a f (n / 2))
theorem pmF_eq (p a : Nat) : ∀ f n, n < 2 ^ f → pmF p a f n = a ^ n % p
  | 0, n, h => by
    obtain rfl : n = 0 := by simpa using h
    rfl
  | f + 1, n, h => by
    have h1 := pmF_eq p a f (n / 2) (by rw [Nat.pow_succ] at h; omega)
    have e : a ^ n = a ^ (n / 2) * a ^ (n / 2) * a ^ (n % 2) := by
      rw [← Nat.pow_add, ← Nat.pow_add]; congr 1; omega
    show (fun h => if n % 2 = 0 then h * h % p else h * h % p * a % p) (pmF p a f (n / 2)) = _
    rw [h1, e]
    by_cases h2 : n % 2 = 0
    · simp only [h2, if_true, Nat.pow_zero, Nat.mul_one]; rw [← Nat.mul_mod]
    · show (if n % 2 = 0 then _ else _) = _
      rw [if_neg h2, show n % 2 = 1 by omega, Nat.pow_one]
      rw [← Nat.mul_mod, Nat.mul_mod (a ^ (n / 2) * a ^ (n / 2) % p), Nat.mod_mod, ← Nat.mul_mod]

theorem proth_pm {P q n g f : Nat} (hP : P = q * 2 ^ (n + 1) + 1) (hn : P < 2 ^ (n + 1) * 2 ^ (n + 1)) (hq : 0 < q) (hf : q * 2 ^ n < 2 ^ f) (hg : pmF P g f (q * 2 ^ n) = P - 1) : IsPrime P :=
  proth hP hn hq (by rw [← pmF_eq P g f _ hf]; exact hg)
theorem small_prime : IsPrime 18446744069414584321 :=
  proth_pm (q := 4294967295) (n := 31) (g := 7) (f := 64) (by decide) (by decide) (by decide) (by decide) (by decide +kernel)
theorem large_prime : IsPrime 340282366920938462946865773367900766209 :=
  proth_pm (q := 4611686018427387897) (n := 65) (g := 7) (f := 128) (by decide) (by decide) (by decide) (by decide) (by decide +kernel)
end Go.Proofs.YtebgfelbffgnbaaGreatDoor.Prime

/-
  Any number to any power is the document's; by what gold's Inv says a number is 1, and of 0 it says that there is none.
-/
namespace Go.Proofs.YtebgfelbffgnbaaGreatDoor
open Go.ChangeShapes Go.WideShapes Go.ChangeAt Go.RowKit F Flow
set_option linter.unusedVariables false
attribute [local go_sem] eql_elem

/-- Fermat, of the small field. -/
theorem inv_one {a : Int} (h0 : 0 ≤ a) (h1 : a < 18446744073709551616) (hz : redu 1 a ≠ 0) : mul 1 a (pow 1 a 18446744069414584319) = 1 := by
  have hb := redu_nonneg 1 a
  have hl := redu_lt 1 a
  have hp := pow_bound 1 a 18446744069414584319
  have e : mul 1 a (pow 1 a 18446744069414584319) = redu 1 a ^ 18446744069414584320 % M 1 := by
    rw [show mul 1 a (pow 1 a 18446744069414584319) = redu 1 a * redu 1 (pow 1 a 18446744069414584319) % M 1 from rfl, redu_of_lt hp.1 hp.2]
    rw [show pow 1 a 18446744069414584319 = redu 1 a ^ 18446744069414584319 % M 1 from rfl, Int.mul_emod, Int.emod_emod, ← Int.mul_emod, Int.mul_comm, ← Int.pow_succ]
  rw [e]
  rw [M1] at *
  obtain ⟨n, hn⟩ := Int.eq_ofNat_of_zero_le hb
  rw [hn] at hz hl ⊢
  have hnd : ¬ 18446744069414584321 ∣ n := fun h => by
    have := Nat.le_of_dvd (by omega) h
    omega
  have hf := Prime.fermat_one Prime.small_prime hnd
  rw [show (18446744069414584321 : Int) = ((18446744069414584321 : Nat) : Int) from rfl, ← Int.natCast_pow, ← Int.natCast_emod]
  rw [show 18446744069414584321 - 1 = 18446744069414584320 from rfl] at hf
  rw [hf]
  rfl

theorem ginv_zero (a : Int) (h0 : 0 ≤ a) (h1 : a < 18446744073709551616) (hz : redu 1 a = 0) (w : World) :
    Calls Tryz.prog 115 #[.int .u64 a] w fun e w' => e = .returned (.tuple #[.int .u64 0, .int .i64 8]) ∧ Below w.heap.size w w' := by
  have hd : (redu 1 a == 0) = true := by simpa using hz
  clear hz
  have hb := Below.refl w.heap.size w
  go_enter Tryz.func115, Tryz.ntmps115
  go_wp2_with (first
    | (go_at_call 105; refine (gof_any a h0 h1 _).mono ?_; rintro e w' ⟨rfl, rfl⟩)
    )
  go_ret2
  exact ⟨rfl, hb⟩
theorem ginv_other (a : Int) (h0 : 0 ≤ a) (h1 : a < 18446744073709551616) (hz : redu 1 a ≠ 0) (w : World) :
    Calls Tryz.prog 115 #[.int .u64 a] w fun e w' => e = .returned (.tuple #[.int .u64 (pow 1 a 18446744069414584319), .int .i64 0]) ∧ Below w.heap.size w w' := by
  have hd : (redu 1 a == 0) = false := by simpa using hz
  have hp := gpow_any a 18446744069414584319 h0 h1 (by omega) (by omega)
  rw [show (18446744069414584319 : Int).toNat = 18446744069414584319 from rfl] at hp
  replace hp := Lib.hid hp
  clear hz
  have hb := Below.refl w.heap.size w
  go_enter Tryz.func115, Tryz.ntmps115
  go_wp2_with (first
    | (go_at_call 105; refine (gof_any a h0 h1 _).mono ?_; rintro e w' ⟨rfl, rfl⟩)
    | (go_at_call 97; refine call_then (hp.out _) ?_; intro wn hwn; replace hb := below_next hb hb.size hwn; clear hwn)
    )
  go_ret2
  exact ⟨rfl, hb⟩

end Go.Proofs.YtebgfelbffgnbaaGreatDoor

/-
  Any order: gold's root of 1 is of just that order, and the document's; of no other order there is one.
-/
namespace Go.Proofs.YtebgfelbffgnbaaGreatDoor
open Go.ChangeShapes Go.WideShapes Go.ChangeAt Go.RowKit F Flow
set_option linter.unusedVariables false
attribute [local go_sem] eql_elem

theorem exp_bound (n : Nat) : (0 : Int) ≤ 18446744069414584320 / 2 ^ n ∧ (18446744069414584320 : Int) / 2 ^ n < 18446744073709551616 := by
  have h := half_bound (x := 18446744069414584320) (by omega) n
  omega

theorem groot_some (log : Int) (h0 : 0 ≤ log) (h1 : log ≤ 32) (w : World) :
    Calls Tryz.prog 113 #[.int .i64 log] w fun e w' => e = .returned (.tuple #[.int .u64 (pow 1 7 (18446744069414584320 / 2 ^ log.toNat : Int).toNat), .int .i64 0]) ∧ Below w.heap.size w w' := by
  have hb := Below.refl w.heap.size w
  have he := exp_bound log.toNat
  have hp := Lib.hid (gpow_any 7 (18446744069414584320 / 2 ^ log.toNat) (by omega) (by omega) he.1 he.2)
  clear he
  go_enter Tryz.func113, Tryz.ntmps113
  go_wp2_with (first
    | (go_at_call 97; refine call_then (hp.out _) ?_; intro wn hwn; replace hb := below_next hb hb.size hwn; clear hwn)
    )
  go_ret2
  exact ⟨rfl, hb⟩

theorem pow_nat (a n : Nat) (ha : a < 18446744069414584321) : pow 1 a n = ((a ^ n % 18446744069414584321 : Nat) : Int) := by
  unfold pow
  rw [gredu_small (by omega) (by omega), M1, Int.natCast_emod, Int.natCast_pow]
  rfl
theorem pow_val (n v f : Nat) (hf : n < 2 ^ f) (h : Prime.pmF 18446744069414584321 7 f n = v) : pow 1 7 n = (v : Int) := by
  rw [← h, Prime.pmF_eq _ _ f n hf]
  exact pow_nat 7 n (by omega)
theorem pow_half : pow 1 7 9223372034707292160 = 18446744069414584320 := pow_val 9223372034707292160 18446744069414584320 64 (by decide) (by decide +kernel)
theorem pow_whole : pow 1 7 18446744069414584320 = 1 := pow_val 18446744069414584320 1 64 (by decide) (by decide +kernel)
theorem exp_halves : ∀ L : Fin 33, 1 ≤ L.val → (18446744069414584320 / 2 ^ L.val : Int).toNat * 2 ^ (L.val - 1) = 9223372034707292160 := by decide
end Go.Proofs.YtebgfelbffgnbaaGreatDoor
