/-
  Contracts of package gold.
-/
import Derived.Test.YtnlnbikiocdpdaaDoorRefE
import Derived.Test.YtnlnbikiocdpdaaDoorShelf
import Derived.Test.YtnlnbikiocdpdaaDoorDivMath
import Derived.Deep.DeepCutAuto
import Derived.Deep.CutBlock
namespace Go.Proofs.YtnlnbikiocdpdaaDoor
open Go.RowKit F Flow

theorem below_drewN {B : Nat} {a w : World} (h : Below B a w) (n : Nat) : Below B a (w.drewN n) := ⟨h.os, h.tape, h.output, h.size, h.block⟩
theorem ret_two {a b c d : Int} (h1 : a = c) (h2 : b = d) : Ending.returned (.tuple #[.int .u64 a, .int .u64 b]) = Ending.returned (.tuple #[.int .u64 c, .int .u64 d]) := by rw [h1, h2]

theorem lz_P (w : World) : Calls Tryd.prog 71 #[.int .u64 18446744069414584321] w fun e w' => e = .returned (.int .i64 0) ∧ w = w' := by
  have h := Tryd.bits_LeadingZeros64 18446744069414584321 w (by omega) (by omega)
  rw [show (64 : Int) - (Lib.bitLen (18446744069414584321 : Int).toNat : Int) = 0 from by decide +kernel] at h
  exact h.mono fun _ _ hh => ⟨hh.1, hh.2.symm⟩

set_option maxHeartbeats 1000000 in
theorem div_P (a b : Int) (h0 : 0 < a) (h1 : a < 18446744069414584321) (h2 : 0 ≤ b) (h3 : b < 18446744073709551616) (w : World) :
    Calls Tryd.prog 69 #[.int .u64 a, .int .u64 b, .int .u64 18446744069414584321] w fun e w' => e = .returned (.tuple #[.int .u64 ((a * 18446744073709551616 + b) / 18446744069414584321), .int .u64 ((a * 18446744073709551616 + b) % 18446744069414584321)]) ∧ Below w.heap.size w w' := by
  have hz : (a == 0) = false := by simp; omega
  go_enter Tryd.func69, Tryd.ntmps69
  go_upto_block 0 with (go_at_call 71; refine (lz_P _).mono ?_; rintro e w' ⟨rfl, rfl⟩)
  have hd0 : 0 ≤ b / 4294967296 := by omega
  have hd1 : b / 4294967296 < 4294967296 := by omega
  obtain ⟨s1, s2⟩ := dinv_shape (a := a) (by omega) h1
  simp only [and_P, or_none (a := a) (b := b) (by omega) (by omega) h2 h3, and_low h2 h3, s1, s2]
  clear s1 s2
  generalize hd : b / 4294967296 = d at *
  have he0 : 0 ≤ b % 4294967296 := by omega
  have he1 : b % 4294967296 < 4294967296 := by omega
  generalize he : b % 4294967296 = e at *
  go_cut [15, 16] (fun q r w' => q = .int .u64 (dq a d) ∧ w' = w)
  case first =>
    go_wp2
    go_loop [15, 16] (fun q r => ∃ Q R : Int, q = .int .u64 Q ∧ r = .int .u64 R ∧ DInv (a) (d) Q R) (fun q _ => (intOf q).toNat)
    case atStart => exact ⟨_, _, rfl, rfl, dinv_start (by omega) h1 hd0 hd1⟩
    case round =>
      obtain ⟨q, r, rfl, rfl, hi⟩ := hrel
      obtain ⟨i1, i2, i3, i4, i5, i6⟩ := id hi
      replace i3 := Lib.hid i3
      clear i1
      by_cases t1 : 4294967296 ≤ q ∨ 4294967296 * r + d < q
      · have hq1 := dinv_pos hi hd0 (by omega) t1
        by_cases t3 : r + 4294967295 < 4294967296
        · have hn := dinv_next hi h1 hd0 hd1 t1 t3
          rcases t1 with t1 | t1
          · go_wp2
            go_round
            case rel => exact ⟨_, _, rfl, rfl, hn⟩
            case measure => simp [intOf]; omega
          · by_cases t2 : 4294967296 ≤ q
            · go_wp2
              go_round
              case rel => exact ⟨_, _, rfl, rfl, hn⟩
              case measure => simp [intOf]; omega
            · go_wp2
              go_round
              case rel => exact ⟨_, _, rfl, rfl, hn⟩
              case measure => simp [intOf]; omega
        · have hn := Lib.hid (dinv_break hi h1 hd0 hd1 t1 (by omega))
          rcases t1 with t1 | t1
          · go_wp2
            go_meet
            case rel => exact ⟨by rw [hn.out], rfl⟩
          · by_cases t2 : 4294967296 ≤ q
            all_goals go_wp2
            all_goals go_meet
            all_goals exact ⟨by rw [hn.out], rfl⟩
      · have t2 : ¬ 4294967296 ≤ q := by omega
        have t4 : ¬ 4294967296 * r + d < q := by omega
        have hn := Lib.hid (dinv_end hi hd0 hd1 (by omega) (by omega))
        go_wp2
        go_meet
        case rel => exact ⟨by rw [hn.out], rfl⟩
  case rest =>
    obtain ⟨rfl, rfl⟩ := hcut
    go_upto_block 2 with (fail)
    obtain ⟨hr0, hr1⟩ := dr_bound a d
    obtain ⟨s1, s2⟩ := dinv_shape hr0 hr1
    simp only [wrap_rest, s1, s2]
    clear s1 s2
    have hfin := Lib.hid (div_two a b)
    rw [hd, he] at hfin
    have hdq := dq_bound (a := a) (d := d) (by omega) h1 hd0 hd1
    have hdq2 := dq_bound (a := dr a d) (d := e) (by omega) hr1 he0 he1
    have hy := Lib.hid h1
    clear h1 hd0 hd1 hd he
    have h1 := hr1
    have hd0 := he0
    have hd1 := he1
    generalize hA : dr a d = A at *
    go_cut [18, 16] (fun q r w' => q = .int .u64 (dq A e) ∧ w' = wc)
    case first =>
      go_wp2
      go_loop [18, 16] (fun q r => ∃ Q R : Int, q = .int .u64 Q ∧ r = .int .u64 R ∧ DInv (A) (e) Q R) (fun q _ => (intOf q).toNat)
      case atStart => exact ⟨_, _, rfl, rfl, dinv_start (by omega) h1 hd0 hd1⟩
      case round =>
        obtain ⟨q, r, rfl, rfl, hi⟩ := hrel
        obtain ⟨i1, i2, i3, i4, i5, i6⟩ := id hi
        replace i3 := Lib.hid i3
        clear i1
        by_cases t1 : 4294967296 ≤ q ∨ 4294967296 * r + e < q
        · have hq1 := dinv_pos hi hd0 (by omega) t1
          by_cases t3 : r + 4294967295 < 4294967296
          · have hn := dinv_next hi h1 hd0 hd1 t1 t3
            rcases t1 with t1 | t1
            · go_wp2
              go_round
              case rel => exact ⟨_, _, rfl, rfl, hn⟩
              case measure => simp [intOf]; omega
            · by_cases t2 : 4294967296 ≤ q
              · go_wp2
                go_round
                case rel => exact ⟨_, _, rfl, rfl, hn⟩
                case measure => simp [intOf]; omega
              · go_wp2
                go_round
                case rel => exact ⟨_, _, rfl, rfl, hn⟩
                case measure => simp [intOf]; omega
          · have hn := Lib.hid (dinv_break hi h1 hd0 hd1 t1 (by omega))
            rcases t1 with t1 | t1
            · go_wp2
              go_meet
              case rel => exact ⟨by rw [hn.out], rfl⟩
            · by_cases t2 : 4294967296 ≤ q
              all_goals go_wp2
              all_goals go_meet
              all_goals exact ⟨by rw [hn.out], rfl⟩
        · have t2 : ¬ 4294967296 ≤ q := by omega
          have t4 : ¬ 4294967296 * r + e < q := by omega
          have hn := Lib.hid (dinv_end hi hd0 hd1 (by omega) (by omega))
          go_wp2
          go_meet
          case rel => exact ⟨by rw [hn.out], rfl⟩
    case rest =>
      obtain ⟨rfl, rfl⟩ := hcut
      go_wp2
      go_ret2
      exact ⟨ret_two hfin.out.1 ((wrap_rest A e).trans hfin.out.2), Below.refl _ _⟩

set_option maxHeartbeats 1000000 in
theorem div_P0 (b : Int) (h2 : 0 ≤ b) (h3 : b < 18446744073709551616) (w : World) :
    Calls Tryd.prog 69 #[.int .u64 0, .int .u64 b, .int .u64 18446744069414584321] w fun e w' => e = .returned (.tuple #[.int .u64 (b / 18446744069414584321), .int .u64 (b % 18446744069414584321)]) ∧ Below w.heap.size w w' := by
  have hq : b.tdiv 18446744069414584321 = b / 18446744069414584321 := Int.tdiv_eq_ediv_of_nonneg h2
  have hr : b.tmod 18446744069414584321 = b % 18446744069414584321 := Int.tmod_eq_emod_of_nonneg h2
  go_enter Tryd.func69, Tryd.ntmps69
  go_wp2
  go_quiet (fail)
  go_wp2
  go_ret2
  exact ⟨ret_two (by first | rfl | exact hq) (by first | rfl | exact hr), below_drewN (Below.refl _ _) _⟩

theorem divmod_rem (a b : Int) : (a % 18446744069414584321 * 18446744073709551616 + b) % 18446744069414584321 = (a * 18446744073709551616 + b) % 18446744069414584321 := by omega

theorem div_any (a b : Int) (h0 : 0 ≤ a) (h1 : a < 18446744069414584321) (h2 : 0 ≤ b) (h3 : b < 18446744073709551616) (w : World) :
    Calls Tryd.prog 69 #[.int .u64 a, .int .u64 b, .int .u64 18446744069414584321] w fun e w' => e = .returned (.tuple #[.int .u64 ((a * 18446744073709551616 + b) / 18446744069414584321), .int .u64 ((a * 18446744073709551616 + b) % 18446744069414584321)]) ∧ Below w.heap.size w w' := by
  by_cases ha : a = 0
  · subst ha
    rw [Int.zero_mul, Int.zero_add]
    exact div_P0 b h2 h3 w
  · exact div_P a b (by omega) h1 h2 h3 w

theorem rem_any (a b : Int) (h0 : 0 ≤ a) (h1 : a < 18446744073709551616) (h2 : 0 ≤ b) (h3 : b < 18446744073709551616) (w : World) :
    Calls Tryd.prog 63 #[.int .u64 a, .int .u64 b, .int .u64 18446744069414584321] w fun e w' => e = .returned (.int .u64 ((a * 18446744073709551616 + b) % 18446744069414584321)) ∧ Below w.heap.size w w' := by
  have hm0 : 0 ≤ a % 18446744069414584321 := by omega
  have hm1 : a % 18446744069414584321 < 18446744069414584321 := by omega
  rw [← divmod_rem]
  go_enter Tryd.func63, Tryd.ntmps63
  go_wp2_with fail
  refine call_then (div_any _ b hm0 hm1 h2 h3 _) ?_
  intro w1 hw1
  go_wp2
  go_ret
  exact ⟨rfl, hw1⟩
end Go.Proofs.YtnlnbikiocdpdaaDoor
