/-
  Contracts of package wide: powers.
-/
import Derived.Test.YtnlnbikiocdpdaaDoorWideF
namespace Go.Proofs.YtnlnbikiocdpdaaDoor
open Go.RowKit F Flow
set_option linter.unusedVariables false
attribute [local go_sem] eql_elem

/-- What a power's loop knows, in the large field. -/
def WInv (a n p b m : Int) : Prop := p * redu 2 b ^ m.toNat % M 2 = pow 2 a n.toNat ∧ 0 ≤ p ∧ p < M 2 ∧ 0 ≤ b ∧ b < 340282366920938463463374607431768211456 ∧ 0 ≤ m ∧ m < 340282366920938463463374607431768211456
theorem winv_start {a n : Int} (h0 : 0 ≤ a) (h1 : a < 340282366920938463463374607431768211456) (h2 : 0 ≤ n) (h3 : n < 340282366920938463463374607431768211456) : WInv a n 1 a n :=
  ⟨by unfold pow; rw [Int.one_mul], by omega, by rw [M2]; omega, h0, h1, h2, h3⟩
theorem winv_end {a n p b : Int} (h : WInv a n p b 0) : p = pow 2 a n.toNat := by
  obtain ⟨h1, h2, h3, _⟩ := h
  rw [← h1, show (0 : Int).toNat = 0 by omega, Int.pow_zero, Int.mul_one, Int.emod_eq_of_lt h2 h3]
theorem wsquare_pow (b : Int) (k : Nat) : redu 2 (mul 2 b b) ^ k % M 2 = redu 2 b ^ (2 * k) % M 2 := by
  have h := mul_bound 2 b b
  rw [redu_small (by decide) h.1 h.2]
  unfold mul
  rw [pow_emod, Int.pow_mul, Int.pow_succ, Int.pow_succ, Int.pow_zero, Int.one_mul]
theorem winv_even {a n p b m : Int} (h : WInv a n p b m) (he : m % 2 = 0) : WInv a n p (mul 2 b b) (m / 2) := by
  obtain ⟨h1, h2, h3, h4, h5, h6, h7⟩ := h
  have hb := mul_bound 2 b b
  refine ⟨?_, h2, h3, hb.1, by rw [M2] at hb; omega, by omega, by omega⟩
  rw [← h1, Int.mul_emod, wsquare_pow, ← Int.mul_emod]
  congr 3
  omega
theorem winv_odd {a n p b m : Int} (h : WInv a n p b m) (ho : m % 2 = 1) : WInv a n (mul 2 p b) (mul 2 b b) (m / 2) := by
  obtain ⟨h1, h2, h3, h4, h5, h6, h7⟩ := h
  have hb := mul_bound 2 b b
  have hp := mul_bound 2 p b
  refine ⟨?_, hp.1, hp.2, hb.1, by rw [M2] at hb; omega, by omega, by omega⟩
  rw [← h1, Int.mul_emod, wsquare_pow, ← Int.mul_emod]
  conv => lhs; unfold mul
  rw [redu_small (by decide) h2 h3, Int.mul_emod, Int.emod_emod, ← Int.mul_emod, Int.mul_assoc, ← Int.pow_succ']
  congr 3
  omega
theorem MulInv.putx {w : World} {x y z : Int} {b : Nat} {w1 : World} (z' : Int) (h : MulInv w x y z b w1) (hb : w.heap.size + 1 + 1 < b) :
    MulInv w z' y z b ((w1.setCell ⟨w.heap.size, 0, none⟩ (.int .u64 (lo z'))).setCell ⟨w.heap.size, 1, none⟩ (.int .u64 (hi z'))) :=
  ⟨below_store2 h.1 (by omega), store2 h.2.1, store2_far h.2.2.1 (by omega), store2_far h.2.2.2.1 (by omega), store2_far h.2.2.2.2 (by omega)⟩
theorem MulInv.puty {w : World} {x y z : Int} {b : Nat} {w1 : World} (z' : Int) (h : MulInv w x y z b w1) (hb : w.heap.size + 1 + 1 < b) :
    MulInv w x z' z b ((w1.setCell ⟨w.heap.size + 1, 0, none⟩ (.int .u64 (lo z'))).setCell ⟨w.heap.size + 1, 1, none⟩ (.int .u64 (hi z'))) :=
  ⟨below_store2 h.1 (by omega), store2_far h.2.1 (by omega), store2 h.2.2.1, store2_far h.2.2.2.1 (by omega), store2_far h.2.2.2.2 (by omega)⟩
/-- The number that a block of two words holds. -/
def inner2 (b : Nat) (w : World) : Nat :=
  match w.heap[b]? with
  | some (.cells c _ _) => (val (intOf (c.getD 0 undef)) (intOf (c.getD 1 undef))).toNat
  | _ => 0
theorem inner2_of {b : Nat} {w : World} {x : Int} {t : TypeId} (h : w.heap[b]? = some (.cells #[.int .u64 (lo x), .int .u64 (hi x)] t (0, 0))) : inner2 b w = x.toNat := by
  unfold inner2; rw [h]; show (val (lo x) (hi x)).toNat = _; rw [val_lohi]

set_option maxHeartbeats 2000000 in
theorem wpow_any (a n : Int) (a0 : 0 ≤ a) (a1 : a < 340282366920938463463374607431768211456) (n0 : 0 ≤ n) (n1 : n < 340282366920938463463374607431768211456) (w : World) :
    Calls Tryd.prog 57 #[.agg #[.int .u64 (lo a), .int .u64 (hi a)], .agg #[.int .u64 (lo n), .int .u64 (hi n)]] w fun e w' => e = .returned (.agg #[.int .u64 (lo (pow 2 a n.toNat)), .int .u64 (hi (pow 2 a n.toNat))]) ∧ Below w.heap.size w w' := by
  go_enter Tryd.func57, Tryd.ntmps57
  go_wp2_with fail
  refine name_wp (MulInv w a n 1 (w.heap.size + 1 + 1 + 1))
    ⟨((((Below.refl _ _).alloc (Nat.le_refl _) _).alloc (by simp) _).alloc (by simp; omega) _).alloc (by simp; omega) _, alloc_keeps (alloc_keeps (alloc_keeps (alloc_at rfl))), alloc_keeps (alloc_keeps (alloc_at (by simp))), alloc_keeps (alloc_at (by simp)), alloc_at (by simp)⟩ ?_
  have hbig : w.heap.size + 1 + 1 < w.heap.size + 1 + 1 + 1 := by omega
  generalize w.heap.size + 1 + 1 + 1 = k at *
  intro w3 h3
  go_loopw [9] (fun _ wr => ∃ b m q : Int, MulInv w b m q k wr ∧ WInv a n q b m) (fun _ wr => inner2 (w.heap.size + 1) wr)
  case atStart => exact ⟨_, _, _, h3, winv_start a0 a1 n0 n1⟩
  case round =>
    obtain ⟨b, m, q, h1, hI⟩ := hrel
    clear h3
    have hmeas := Lib.hid (inner2_of h1.2.2.1)
    by_cases hm : m = 0
    · subst hm
      have hq := winv_end hI
      clear hI
      subst hq
      have z0 : lo 0 = 0 := rfl
      have z1 : hi 0 = 0 := rfl
      obtain ⟨c0, d0, f0, g0⟩ := blk2 h1.2.1
      obtain ⟨c1, d1, f1, g1⟩ := blk2 h1.2.2.1
      obtain ⟨c2, d2, f2, g2⟩ := blk2 h1.2.2.2.1
      obtain ⟨c3, d3, f3, g3⟩ := blk2 h1.2.2.2.2
      go_wp2
      obtain ⟨p2, q2, _, _⟩ := blk2 (store2 (u := .int .u64 (lo (pow 2 a n.toNat))) (v := .int .u64 (hi (pow 2 a n.toNat))) h1.2.2.2.1)
      exact bodyPost_ret (v := .agg #[.int .u64 (lo (pow 2 a n.toNat)), .int .u64 (hi (pow 2 a n.toNat))]) (by simp [results, Tryd.results57, go_sem, p2, q2]) rfl ⟨rfl, below_store2 h1.1 (by omega)⟩
    · have hd : (lo m == 0 && hi m == 0) = false := by rw [zero_iff hI.2.2.2.2.2.1]; simpa using hm
      have hless : (m / 2).toNat < m.toNat := by have := hI.2.2.2.2.2.1; omega
      replace hless := Lib.hid hless
      have hand := and_one (lo_nonneg m) (lo_lt m)
      have hmod : lo m % 2 = m % 2 := by unfold lo; omega
      rw [hmod] at hand
      have hi2 := hI.2.1
      have hi3 := hI.2.2.1
      rw [M2] at hi3
      have hi4 := hI.2.2.2.1
      have hi5 := hI.2.2.2.2.1
      have hi6 := hI.2.2.2.2.2.1
      have hi7 := hI.2.2.2.2.2.2
      clear hm hmod
      by_cases ho : m % 2 = 1
      · rw [ho] at hand
        have hnext := Lib.hid (winv_odd hI ho)
        clear hI ho
        obtain ⟨c0, d0, f0, g0⟩ := blk2 h1.2.1
        obtain ⟨c1, d1, f1, g1⟩ := blk2 h1.2.2.1
        obtain ⟨c2, d2, f2, g2⟩ := blk2 h1.2.2.2.1
        obtain ⟨c3, d3, f3, g3⟩ := blk2 h1.2.2.2.2
        go_wp2_with fail
        clear c0 d0 f0 g0 c1 d1 f1 g1 c2 d2 f2 g2 c3 d3 f3 g3
        refine call_then (wmul_any q b hi2 (by omega) hi4 hi5 _) ?_
        intro w4 hw4
        replace h1 := h1.on hw4
        clear hw4
        obtain ⟨c0, d0, f0, g0⟩ := blk2 h1.2.1
        obtain ⟨c1, d1, f1, g1⟩ := blk2 h1.2.2.1
        obtain ⟨c2, d2, f2, g2⟩ := blk2 h1.2.2.2.1
        obtain ⟨c3, d3, f3, g3⟩ := blk2 h1.2.2.2.2
        go_wp2_with fail
        clear c0 d0 f0 g0 c1 d1 f1 g1 c2 d2 f2 g2 c3 d3 f3 g3
        refine name_calls (MulInv w b m (mul 2 q b) k) (h1.put _ hbig) ?_
        clear h1
        intro w5 h1
        refine call_then (wmul_any b b hi4 hi5 hi4 hi5 _) ?_
        intro w6 hw6
        replace h1 := h1.on hw6
        clear hw6
        obtain ⟨c0, d0, f0, g0⟩ := blk2 h1.2.1
        obtain ⟨c1, d1, f1, g1⟩ := blk2 h1.2.2.1
        obtain ⟨c2, d2, f2, g2⟩ := blk2 h1.2.2.2.1
        obtain ⟨c3, d3, f3, g3⟩ := blk2 h1.2.2.2.2
        go_wp2_with fail
        clear c0 d0 f0 g0 c1 d1 f1 g1 c2 d2 f2 g2 c3 d3 f3 g3
        refine name_calls (MulInv w (mul 2 b b) m (mul 2 q b) k) (h1.putx _ hbig) ?_
        clear h1
        intro w7 h1
        refine call_then (wshift_one m hi6 hi7 _) ?_
        intro w8 hw8
        replace h1 := h1.on hw8
        clear hw8
        obtain ⟨c0, d0, f0, g0⟩ := blk2 h1.2.1
        obtain ⟨c1, d1, f1, g1⟩ := blk2 h1.2.2.1
        obtain ⟨c2, d2, f2, g2⟩ := blk2 h1.2.2.2.1
        obtain ⟨c3, d3, f3, g3⟩ := blk2 h1.2.2.2.2
        go_wp2
        clear c0 d0 f0 g0 c1 d1 f1 g1 c2 d2 f2 g2 c3 d3 f3 g3
        go_roundw
        case rel => exact ⟨_, _, _, h1.puty _ hbig, hnext.out⟩
        case measure => rw [inner2_of (h1.puty (m / 2) hbig).2.2.1, hmeas.out]; exact hless.out
      · have he : m % 2 = 0 := by omega
        rw [he] at hand
        have hnext := Lib.hid (winv_even hI he)
        clear hI ho he
        obtain ⟨c0, d0, f0, g0⟩ := blk2 h1.2.1
        obtain ⟨c1, d1, f1, g1⟩ := blk2 h1.2.2.1
        obtain ⟨c2, d2, f2, g2⟩ := blk2 h1.2.2.2.1
        obtain ⟨c3, d3, f3, g3⟩ := blk2 h1.2.2.2.2
        go_wp2_with fail
        clear c0 d0 f0 g0 c1 d1 f1 g1 c2 d2 f2 g2 c3 d3 f3 g3
        refine call_then (wmul_any b b hi4 hi5 hi4 hi5 _) ?_
        intro w6 hw6
        replace h1 := h1.on hw6
        clear hw6
        obtain ⟨c0, d0, f0, g0⟩ := blk2 h1.2.1
        obtain ⟨c1, d1, f1, g1⟩ := blk2 h1.2.2.1
        obtain ⟨c2, d2, f2, g2⟩ := blk2 h1.2.2.2.1
        obtain ⟨c3, d3, f3, g3⟩ := blk2 h1.2.2.2.2
        go_wp2_with fail
        clear c0 d0 f0 g0 c1 d1 f1 g1 c2 d2 f2 g2 c3 d3 f3 g3
        refine name_calls (MulInv w (mul 2 b b) m (q) k) (h1.putx _ hbig) ?_
        clear h1
        intro w7 h1
        refine call_then (wshift_one m hi6 hi7 _) ?_
        intro w8 hw8
        replace h1 := h1.on hw8
        clear hw8
        have hin := Lib.hid (inner2_of h1.2.2.1)
        obtain ⟨c0, d0, f0, g0⟩ := blk2 h1.2.1
        obtain ⟨c1, d1, f1, g1⟩ := blk2 h1.2.2.1
        obtain ⟨c2, d2, f2, g2⟩ := blk2 h1.2.2.2.1
        obtain ⟨c3, d3, f3, g3⟩ := blk2 h1.2.2.2.2
        go_wp2
        clear c0 d0 f0 g0 c1 d1 f1 g1 c2 d2 f2 g2 c3 d3 f3 g3
        go_roundw
        case rel => exact ⟨_, _, _, h1.puty _ hbig, hnext.out⟩
        case measure => rw [inner2_of (h1.puty (m / 2) hbig).2.2.1, hmeas.out]; exact hless.out
end Go.Proofs.YtnlnbikiocdpdaaDoor
