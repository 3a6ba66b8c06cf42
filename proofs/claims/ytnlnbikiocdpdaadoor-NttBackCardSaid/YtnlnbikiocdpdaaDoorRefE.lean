/-
  Contracts of the reference's elements: products and powers.
-/
import Derived.Test.YtnlnbikiocdpdaaDoorRefD
namespace Go.Proofs.YtnlnbikiocdpdaaDoor
open Go.RowKit F Flow

/-- What a product's loop knows at its head: the two factors, the result's place, and the product so far. -/
def MulInv (w : World) (x y z : Int) (b : Nat) (wr : World) : Prop :=
  Below w.heap.size w wr ∧ wr.heap[w.heap.size]? = some (.cells #[.int .u64 (lo x), .int .u64 (hi x)] 34 (0, 0)) ∧ wr.heap[w.heap.size + 1]? = some (.cells #[.int .u64 (lo y), .int .u64 (hi y)] 34 (0, 0)) ∧
    wr.heap[w.heap.size + 1 + 1]? = some (.cells #[.int .u64 0, .int .u64 0] 34 (0, 0)) ∧ wr.heap[b]? = some (.cells #[.int .u64 (lo z), .int .u64 (hi z)] 34 (0, 0))

theorem MulInv.on {w : World} {x y z : Int} {b : Nat} {w1 w2 : World} (h : MulInv w x y z b w1) (hb : Below w1.heap.size w1 w2) : MulInv w x y z b w2 :=
  ⟨below_next h.1 h.1.size hb, keeps hb h.2.1, keeps hb h.2.2.1, keeps hb h.2.2.2.1, keeps hb h.2.2.2.2⟩
theorem MulInv.put {w : World} {x y z : Int} {b : Nat} {w1 : World} (z' : Int) (h : MulInv w x y z b w1) (hb : w.heap.size + 1 + 1 < b) :
    MulInv w x y z' b ((w1.setCell ⟨b, 0, none⟩ (.int .u64 (lo z'))).setCell ⟨b, 1, none⟩ (.int .u64 (hi z'))) :=
  ⟨below_store2 h.1 (by omega), store2_far h.2.1 (by omega), store2_far h.2.2.1 (by omega), store2_far h.2.2.2.1 (by omega), store2 h.2.2.2.2⟩

set_option maxHeartbeats 1000000 in
/-- Mul: doubling and adding. -/
theorem mul_any (f X Y : Int) (hX : 0 ≤ X) (hX' : X < 340282366920938463463374607431768211456) (hY : 0 ≤ Y) (hY' : Y < 340282366920938463463374607431768211456) (w : World) :
    Calls Tryd.prog 26 #[.int .i64 f, .agg #[.int .u64 (lo X), .int .u64 (hi X)], .agg #[.int .u64 (lo Y), .int .u64 (hi Y)]] w fun e w' => e = .returned (.agg #[.int .u64 (lo (mul f X Y)), .int .u64 (hi (mul f X Y))]) ∧ Below w.heap.size w w' := by
  have hx0 := redu_nonneg f X
  have hx1 := redu_lt f X
  have hy0 := redu_nonneg f Y
  have hy1 := redu_lt f Y
  have hM' : M f < 340282366920938463463374607431768211456 := by have := M_lt f; omega
  have hres := Lib.hid (mulTo_zero f X Y)
  have htop := Lib.hid (mulTo_top f X Y)
  have st0 : Hid (∀ k, bitOf (redu f Y) k = false → add f (mulTo f X Y (k + 1)) (mulTo f X Y (k + 1)) = mulTo f X Y k) := Lib.hid fun k h => mulTo_step0 h
  have st1 : Hid (∀ k, bitOf (redu f Y) k = true → add f (add f (mulTo f X Y (k + 1)) (mulTo f X Y (k + 1))) (redu f X) = mulTo f X Y k) := Lib.hid fun k h => mulTo_step1 h
  go_enter Tryd.func26, Tryd.ntmps26
  go_wp2
  refine name_wp (fun w1 => Below w.heap.size w w1 ∧ w1.heap[w.heap.size]? = some (.cells #[.int .u64 (lo X), .int .u64 (hi X)] 34 (0, 0)) ∧ w1.heap[w.heap.size + 1]? = some (.cells #[.int .u64 (lo Y), .int .u64 (hi Y)] 34 (0, 0)) ∧
      w1.heap[w.heap.size + 1 + 1]? = some (.cells #[.int .u64 0, .int .u64 0] 34 (0, 0)))
    ⟨(((Below.refl _ _).alloc (Nat.le_refl _) _).alloc (by simp) _).alloc (by simp; omega) _, alloc_keeps (alloc_keeps (alloc_at rfl)), alloc_keeps (alloc_at (by simp)), alloc_at (by simp)⟩ ?_
  rintro w1 ⟨b1, k0, k1, k2⟩
  refine wp_region_flow1 6 (by kernel_rfl) (by kernel_rfl) (by kernel_rfl) ?_
  apply Exists.intro
  refine ⟨fun ι _ φ hφ => ?_, fun w2 hw2 => ?_⟩
  · obtain ⟨e0, e1⟩ := hφ.two k0
    obtain ⟨e2, e3⟩ := hφ.two k1
    simp only [List.take_succ_cons, List.take_zero]
    repeat (go_big_quiet_step ((first
      | (go_at_call 15; exact flow_call hφ (of_any f _ (by omega) (by omega) _)))))
    exact wpQuiet_nil rfl
  replace b1 := below_next b1 b1.size hw2
  replace k0 := keeps hw2 k0
  replace k1 := keeps hw2 k1
  replace k2 := keeps hw2 k2
  clear hw2
  obtain ⟨c0, d0, f0, g0⟩ := blk2 k0
  obtain ⟨c1, d1, f1, g1⟩ := blk2 k1
  have ne : w.heap.size + 1 ≠ w.heap.size := by omega
  have ne2 : w.heap.size ≠ w.heap.size + 1 := by omega
  simp only [List.drop_succ_cons, List.drop_zero]
  go_wp2_with fail
  have hbig : w.heap.size + 1 + 1 < w2.heap.size := lt_of_get k2
  refine name_wp (MulInv w (redu f X) (redu f Y) 0 w2.heap.size)
    ⟨(below_store2 (below_store2 b1 (by omega)) (by omega)).alloc (by simp; omega) _, alloc_keeps (store2_far (store2 k0) ne2), alloc_keeps (store2 (store2_far k1 ne)), alloc_keeps (store2_far (store2_far k2 (by omega)) (by omega)), alloc_at (by simp)⟩ ?_
  clear c0 d0 f0 g0 c1 d1 f1 g1 k0 k1 k2 b1
  generalize w2.heap.size = b at *
  intro w3 h3
  go_loopw [8] (fun i wr => ∃ n : Int, i = .int .i64 n ∧ -1 ≤ n ∧ n ≤ 127 ∧ MulInv w (redu f X) (redu f Y) (mulTo f X Y (n + 1).toNat) b wr) (fun i _ => (intOf i + 1).toNat)
  case atStart => exact ⟨127, rfl, by omega, by omega, by rw [show ((127 : Int) + 1).toNat = 128 from rfl, htop.out]; exact h3⟩
  case round =>
    obtain ⟨n, rfl, hn0, hn1, h1⟩ := hrel
    clear h3
    by_cases hn : 0 ≤ n
    · obtain ⟨k, rfl⟩ := Int.eq_ofNat_of_zero_le hn
      have hk : ((k : Int) + 1).toNat = k + 1 := by omega
      rw [hk] at h1
      clear hk
      have hm := mulTo_bound f X Y (k + 1)
      have ha := add_bound f (mulTo f X Y (k + 1)) (mulTo f X Y (k + 1))
      have G0 := Lib.hid (st0.out k)
      have G1 := Lib.hid (st1.out k)
      obtain ⟨c0, d0, f0, g0⟩ := blk2 h1.2.1
      obtain ⟨c1, d1, f1, g1⟩ := blk2 h1.2.2.1
      obtain ⟨c2, d2, f2, g2⟩ := blk2 h1.2.2.2.1
      obtain ⟨c3, d3, f3, g3⟩ := blk2 h1.2.2.2.2
      by_cases hbit : bitOf (redu f Y) k = true
      · go_wp2_with fail
        clear c0 d0 f0 g0 c1 d1 f1 g1 c2 d2 f2 g2 c3 d3 f3 g3
        refine call_then (add_any f _ _ hm.1 (by omega) hm.1 (by omega) _) ?_
        intro w4 hw4
        replace h1 := h1.on hw4
        clear hw4
        obtain ⟨c0, d0, f0, g0⟩ := blk2 h1.2.1
        obtain ⟨c1, d1, f1, g1⟩ := blk2 h1.2.2.1
        obtain ⟨c2, d2, f2, g2⟩ := blk2 h1.2.2.2.1
        obtain ⟨c3, d3, f3, g3⟩ := blk2 h1.2.2.2.2
        go_wp2_with fail
        clear c0 d0 f0 g0 c1 d1 f1 g1 c2 d2 f2 g2 c3 d3 f3 g3
        refine name_calls (MulInv w (redu f X) (redu f Y) (add f (mulTo f X Y (k + 1)) (mulTo f X Y (k + 1))) b) (h1.put _ hbig) ?_
        clear h1
        intro w5 h1
        refine call_then (bit_nat (redu f Y) k hy0 (by omega) (by omega) _) ?_
        intro w6 hw6
        replace h1 := h1.on hw6
        clear hw6
        obtain ⟨c0, d0, f0, g0⟩ := blk2 h1.2.1
        obtain ⟨c1, d1, f1, g1⟩ := blk2 h1.2.2.1
        obtain ⟨c2, d2, f2, g2⟩ := blk2 h1.2.2.2.1
        obtain ⟨c3, d3, f3, g3⟩ := blk2 h1.2.2.2.2
        go_wp2_with fail
        clear c0 d0 f0 g0 c1 d1 f1 g1 c2 d2 f2 g2 c3 d3 f3 g3
        refine call_then (add_any f _ _ ha.1 (by omega) hx0 (by omega) _) ?_
        intro w7 hw7
        replace h1 := h1.on hw7
        clear hw7
        obtain ⟨c0, d0, f0, g0⟩ := blk2 h1.2.1
        obtain ⟨c1, d1, f1, g1⟩ := blk2 h1.2.2.1
        obtain ⟨c2, d2, f2, g2⟩ := blk2 h1.2.2.2.1
        obtain ⟨c3, d3, f3, g3⟩ := blk2 h1.2.2.2.2
        go_wp2
        clear c0 d0 f0 g0 c1 d1 f1 g1 c2 d2 f2 g2 c3 d3 f3 g3
        go_roundw
        case rel => exact ⟨k - 1, rfl, by omega, by omega, by rw [show ((k : Int) - 1 + 1).toNat = k by omega, ← G1.out hbit]; exact h1.put _ hbig⟩
        case measure => simp [intOf]
      · have hbit : bitOf (redu f Y) k = false := by simpa using hbit
        go_wp2_with fail
        clear c0 d0 f0 g0 c1 d1 f1 g1 c2 d2 f2 g2 c3 d3 f3 g3
        refine call_then (add_any f _ _ hm.1 (by omega) hm.1 (by omega) _) ?_
        intro w4 hw4
        replace h1 := h1.on hw4
        clear hw4
        obtain ⟨c0, d0, f0, g0⟩ := blk2 h1.2.1
        obtain ⟨c1, d1, f1, g1⟩ := blk2 h1.2.2.1
        obtain ⟨c2, d2, f2, g2⟩ := blk2 h1.2.2.2.1
        obtain ⟨c3, d3, f3, g3⟩ := blk2 h1.2.2.2.2
        go_wp2_with fail
        clear c0 d0 f0 g0 c1 d1 f1 g1 c2 d2 f2 g2 c3 d3 f3 g3
        refine name_calls (MulInv w (redu f X) (redu f Y) (add f (mulTo f X Y (k + 1)) (mulTo f X Y (k + 1))) b) (h1.put _ hbig) ?_
        clear h1
        intro w5 h1
        refine call_then (bit_nat (redu f Y) k hy0 (by omega) (by omega) _) ?_
        intro w6 hw6
        replace h1 := h1.on hw6
        clear hw6
        go_wp2
        go_roundw
        case rel => exact ⟨k - 1, rfl, by omega, by omega, by rw [show ((k : Int) - 1 + 1).toNat = k by omega, ← G0.out hbit]; exact h1⟩
        case measure => simp [intOf]
    · obtain rfl : n = -1 := by omega
      rw [show ((-1 : Int) + 1).toNat = 0 from rfl, hres.out] at h1
      obtain ⟨c0, d0, f0, g0⟩ := blk2 h1.2.1
      obtain ⟨c1, d1, f1, g1⟩ := blk2 h1.2.2.1
      obtain ⟨c2, d2, f2, g2⟩ := blk2 h1.2.2.2.1
      obtain ⟨c3, d3, f3, g3⟩ := blk2 h1.2.2.2.2
      go_wp2
      obtain ⟨p2, q2, _, _⟩ := blk2 (store2 (u := .int .u64 (lo (mul f X Y))) (v := .int .u64 (hi (mul f X Y))) h1.2.2.2.1)
      exact bodyPost_ret (v := .agg #[.int .u64 (lo (mul f X Y)), .int .u64 (hi (mul f X Y))]) (by simp [results, Tryd.results26, go_sem, p2, q2]) rfl ⟨rfl, below_store2 h1.1 (by omega)⟩

end Go.Proofs.YtnlnbikiocdpdaaDoor
