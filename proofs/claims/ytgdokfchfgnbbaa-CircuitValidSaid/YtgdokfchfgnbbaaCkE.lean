/-
  The number that bits say, and what of a vector is summed, as the document says.
-/
import Derived.Test.YtgdokfchfgnbbaaCkA
import Derived.Test.YtgdokfchfgnbbaaBA
import Derived.Test.YtgdokfchfgnbbaaBX
namespace Go.Proofs.Ytgdokfchfgnbbaa
open Go.RowKit Flow F
set_option linter.unusedVariables false
set_option linter.unusedSimpArgs false

theorem mul_swap (f a b : Int) : mul f a b = mul f b a := by unfold mul; rw [Int.mul_comm]
theorem add_self (f p : Int) : add f p p = mul f p 2 := by
  have hM := M_big f
  unfold add mul
  rw [redu_in (x := 2) (by omega) (by omega)]
  congr 1
  omega
theorem power_step (f : Int) (k : Nat) : add f (power (mul f) 2 k) (power (mul f) 2 k) = power (mul f) 2 (k + 1) := by rw [add_self]; rfl
theorem numF_take (f : Int) {xs : List Int} {k : Nat} (h : k < xs.length) : numF f (xs.take (k + 1)) = add f (numF f (xs.take k)) (mul f (power (mul f) 2 k) (xs.getD k 0)) := by
  rw [take_snocD h, numF_snoc, mul_swap, List.length_take, Nat.min_eq_left (by omega)]
set_option maxRecDepth 20000 in
set_option maxHeartbeats 4000000 in
theorem rnumber_any (f : Int) (hf : f = 1 ∨ f = 2) (xs : List Int) (A : Option Addr) (N c : Nat) (hl : xs.length = N) (hm : N ≤ 4096) (hx : ElemsOK xs) (w : World) (hA : ElemsAt w A xs) :
    Calls Try.prog 76 #[.int .i64 f, .slice A N c] w fun e w' => e = .returned (.agg #[.int .u64 (lo (numF f xs)), .int .u64 (hi (numF f xs))]) ∧ Below w.heap.size w w' := by
  have hM := M_lt f
  have hpb : ∀ k, 0 ≤ power (mul f) 2 k ∧ power (mul f) 2 k < 340282366920938463463374607431768211456 := power_ok (fun x x0 x1 => by have := mul_bound f x 2; omega)
  have hnb := fun k => numF_bound f (xs.take k)
  replace hl := Lib.hid hl
  replace hx := Lib.hid hx
  replace hA := Lib.hid hA
  replace hpb := Lib.hid hpb
  replace hnb := Lib.hid hnb
  go_enter Try.func76, Try.ntmps76
  go_upto_region 3 with (fail)
  refine name_wp (fun w1 => Below w.heap.size w w1 ∧ Holds w1 w.heap.size 0 ∧ Holds w1 (w.heap.size + 1) (numF f (xs.take 0)) ∧ Holds w1 (w.heap.size + 1 + 1) (power (mul f) 2 0)) ⟨(((Below.refl _ _).alloc (Nat.le_refl _) _).alloc (by simp) _).alloc (by simp; omega) _, alloc_keeps (alloc_keeps (alloc_at rfl)), alloc_keeps (alloc_at (by simp)), alloc_at (by simp)⟩ ?_
  rintro w1 ⟨hb, k0, k1, k2⟩
  go_wp2
  go_loopw [7] (fun i wr => ∃ j : Nat, j ≤ N ∧ i = .int .i64 (j : Int) ∧ Below w.heap.size w wr ∧ Holds wr w.heap.size 0 ∧ Holds wr (w.heap.size + 1) (numF f (xs.take j)) ∧ Holds wr (w.heap.size + 1 + 1) (power (mul f) 2 j)) (fun i _ => N - (intOf i).toNat)
  case atStart => exact ⟨0, Nat.zero_le _, rfl, hb, k0, k1, k2⟩
  case round =>
    clear hb k0 k1 k2
    obtain ⟨j, hj, rfl, hb, k0, k1, k2⟩ := hrel
    by_cases hlt : j < N
    · have j1 : (j : Int) < (N : Int) := by omega
      have j0 : (0 : Int) ≤ (j : Int) := by omega
      obtain ⟨p, o, rfl, hc0, hc1⟩ := (hA.out.up hb) j (by rw [hl.out]; exact hlt)
      have hz := hx.out.at_ (k := j) (by rw [hl.out]; exact hlt)
      have hst := numF_take f (xs := xs) (k := j) (by rw [hl.out]; exact hlt)
      have hps := power_step f j
      have hp := hpb.out j
      have hn := hnb.out j
      generalize xs.getD j 0 = z at *
      obtain ⟨n2, hn2⟩ : ∃ n2, numF f (xs.take (j + 1)) = n2 := ⟨_, rfl⟩
      rw [hn2] at hst
      replace hn2 := Lib.hid hn2
      generalize numF f (xs.take j) = n1 at *
      obtain ⟨p2, hp2⟩ : ∃ p2, power (mul f) 2 (j + 1) = p2 := ⟨_, rfl⟩
      rw [hp2] at hps
      replace hp2 := Lib.hid hp2
      generalize power (mul f) 2 j = p1 at *
      have hm1 := Lib.hid (fun w => mul_any f p1 z hp.1 hp.2 hz.1 hz.2 w)
      have hmb := mul_bound f p1 z
      have ha1 := fun w => add_any f n1 (mul f p1 z) hn.1 (by omega) hmb.1 (by omega) w
      rw [← hst] at ha1
      have ha2 := fun w => add_any f p1 p1 hp.1 hp.2 hp.1 hp.2 w
      rw [hps] at ha2
      generalize mul f p1 z = m1 at *
      replace ha1 := Lib.hid ha1
      replace ha2 := Lib.hid ha2
      replace hst := Lib.hid hst
      replace hps := Lib.hid hps
      go_upto_region 6 with (fail)
      refine wp_region_flow1 10 (by kernel_rfl) (by kernel_rfl) (by kernel_rfl) ?_
      apply Exists.intro
      refine ⟨fun ι _ φ hφ => ?_, fun wt hwt => ?_⟩
      · obtain ⟨q0, q1⟩ := Family.two hφ k1
        obtain ⟨q2, q3⟩ := Family.two hφ k2
        have q4 := fun i => hφ.cell hc0 i
        have q5 := fun i => hφ.cell hc1 i
        simp only [List.take_succ_cons, List.take_zero]
        repeat (go_big_quiet_step ((first
          | (go_at_call 101; exact flow_call hφ (hm1.out _))
          | (go_at_call 100; exact flow_call hφ (ha1.out _)))))
        exact wpQuiet_nil rfl
      replace hb := below_next hb hb.size hwt
      replace k0 := k0.up hwt
      replace k1 := k1.up hwt
      replace k2 := k2.up hwt
      clear hwt hc0 hc1
      simp only [List.drop_succ_cons, List.drop_zero]
      obtain ⟨s0, s1, s2, s3⟩ := blk2 k1
      go_upto_region 7 with (fail)
      refine name_wp (fun w5 => Below w.heap.size w w5 ∧ Holds w5 w.heap.size 0 ∧ Holds w5 (w.heap.size + 1) n2 ∧ Holds w5 (w.heap.size + 1 + 1) p1) ⟨below_store2 hb (by omega), k0.far (by omega), k1.set n2, k2.far (by omega)⟩ ?_
      clear hb k0 k1 k2 s0 s1 s2 s3
      rintro w5 ⟨hb, k0, k1, k2⟩
      obtain ⟨s0, s1, s2, s3⟩ := blk2 k2
      go_wp2_with fail
      refine call_then (ha2.out _) ?_
      intro w6 hv
      replace hb := below_next hb hb.size hv
      replace k0 := k0.up hv
      replace k1 := k1.up hv
      replace k2 := k2.up hv
      clear hv s0 s1 s2 s3
      obtain ⟨s0, s1, s2, s3⟩ := blk2 k2
      have hb7 := below_store2 hb (show w.heap.size ≤ w.heap.size + 1 + 1 by omega) (u := .int .u64 (lo p2)) (v := .int .u64 (hi p2))
      have k07 := k0.far (show w.heap.size ≠ w.heap.size + 1 + 1 by omega) (u := .int .u64 (lo p2)) (v := .int .u64 (hi p2))
      have k17 := k1.far (show w.heap.size + 1 ≠ w.heap.size + 1 + 1 by omega) (u := .int .u64 (lo p2)) (v := .int .u64 (hi p2))
      have k27 := k2.set p2
      clear hb k0 k1 k2
      go_wp2
      exact ⟨⟨j + 1, by omega, by go_num, hb7, k07, by rw [hn2.out]; exact k17, by rw [hp2.out]; exact k27⟩, by simp [intOf]; omega⟩
    · obtain rfl : N = j := by omega
      rw [List.take_of_length_le (by rw [hl.out]; exact Nat.le_refl _)] at k1
      have j1 : ¬ (N : Int) < (N : Int) := by omega
      obtain ⟨s0, s1, s2, s3⟩ := blk2 k1
      obtain ⟨t0, t1, t2, t3⟩ := blk2 k0
      obtain ⟨v, hv⟩ : ∃ v, numF f xs = v := ⟨_, rfl⟩
      rw [hv] at s0 s1
      replace hv := Lib.hid hv
      go_wp2
      have kk := k0.set v
      obtain ⟨z0, z1, _, _⟩ := blk2 kk
      exact bodyPost_ret (v := .agg #[.int .u64 (F.lo v), .int .u64 (F.hi v)]) (by simp [results, Try.results76, go_sem, z0, z1]) rfl ⟨by rw [hv.out], below_store2 hb (Nat.le_refl _)⟩
end Go.Proofs.Ytgdokfchfgnbbaa
