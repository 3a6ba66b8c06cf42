import Derived.Test.YtgdokfchfgnbbaaGreatDM
import Derived.Test.YtgdokfchfgnbbaaGreatBA
import Derived.Test.YtgdokfchfgnbbaaGreatBX
import Derived.Test.YtgdokfchfgnbbaaGreatDI
/-
  The number that bits say, and what of a vector is summed, as the document says.
-/
namespace Go.Proofs.YtgdokfchfgnbbaaGreat
open Go.RowKit Flow F
set_option linter.unusedVariables false
set_option linter.unusedSimpArgs false

theorem mul_swap (f a b : Int) : mul f a b = mul f b a := by unfold mul; rw [Int.mul_comm]
theorem add_self (f p : Int) : add f p p = mul f p 2 := by
  have hM := M_big f
  unfold add mul
  rw [redu_in (x := 2) (by omega) (by omega)]
  congr 1
  omega
theorem power_step (f : Int) (k : Nat) : add f (power (mul f) 2 k) (power (mul f) 2 k) = power (mul f) 2 (k + 1) := by rw [add_self]; rfl
theorem numF_take (f : Int) {xs : List Int} {k : Nat} (h : k < xs.length) : numF f (xs.take (k + 1)) = add f (numF f (xs.take k)) (mul f (power (mul f) 2 k) (xs.getD k 0)) := by
  rw [take_snocD h, numF_snoc, mul_swap, List.length_take, Nat.min_eq_left (by omega)]
set_option maxRecDepth 20000 in
set_option maxHeartbeats 4000000 in
theorem rnumber_any (f : Int) (hf : f = 1 ∨ f = 2) (xs : List Int) (A : Option Addr) (N c : Nat) (hl : xs.length = N) (hm : N ≤ 4096) (hx : ElemsOK xs) (w : World) (hA : ElemsAt w A xs) :
    Calls Tryz.prog 40 #[.int .i64 f, .slice A N c] w fun e w' => e = .returned (.agg #[.int .u64 (lo (numF f xs)), .int .u64 (hi (numF f xs))]) ∧ Below w.heap.size w w' := by
  have hM := M_lt f
  have hpb : ∀ k, 0 ≤ power (mul f) 2 k ∧ power (mul f) 2 k < 340282366920938463463374607431768211456 := power_ok (fun x x0 x1 => by have := mul_bound f x 2; omega)
  have hnb := fun k => numF_bound f (xs.take k)
  replace hl := Lib.hid hl
  replace hx := Lib.hid hx
  replace hA := Lib.hid hA
  replace hpb := Lib.hid hpb
  replace hnb := Lib.hid hnb
  go_enter Tryz.func40, Tryz.ntmps40
  go_upto_region 3 with (fail)
  refine name_wp (fun w1 => Below w.heap.size w w1 ∧ Holds w1 w.heap.size 0 ∧ Holds w1 (w.heap.size + 1) (numF f (xs.take 0)) ∧ Holds w1 (w.heap.size + 1 + 1) (power (mul f) 2 0)) ⟨(((Below.refl _ _).alloc (Nat.le_refl _) _).alloc (by simp) _).alloc (by simp; omega) _, alloc_keeps (alloc_keeps (alloc_at rfl)), alloc_keeps (alloc_at (by simp)), alloc_at (by simp)⟩ ?_
  rintro w1 ⟨hb, k0, k1, k2⟩
  go_wp2
  go_loopw [7] (fun i wr => ∃ j : Nat, j ≤ N ∧ i = .int .i64 (j : Int) ∧ Below w.heap.size w wr ∧ Holds wr w.heap.size 0 ∧ Holds wr (w.heap.size + 1) (numF f (xs.take j)) ∧ Holds wr (w.heap.size + 1 + 1) (power (mul f) 2 j)) (fun i _ => N - (intOf i).toNat)
  case atStart => exact ⟨0, Nat.zero_le _, rfl, hb, k0, k1, k2⟩
  case round =>
    clear hb k0 k1 k2
    obtain ⟨j, hj, rfl, hb, k0, k1, k2⟩ := hrel
    by_cases hlt : j < N
    · have j1 : (j : Int) < (N : Int) := by omega
      have j0 : (0 : Int) ≤ (j : Int) := by omega
      obtain ⟨p, o, rfl, hc0, hc1⟩ := (hA.out.up hb) j (by rw [hl.out]; exact hlt)
      have hz := hx.out.at_ (k := j) (by rw [hl.out]; exact hlt)
      have hst := numF_take f (xs := xs) (k := j) (by rw [hl.out]; exact hlt)
      have hps := power_step f j
      have hp := hpb.out j
      have hn := hnb.out j
      generalize xs.getD j 0 = z at *
      obtain ⟨n2, hn2⟩ : ∃ n2, numF f (xs.take (j + 1)) = n2 := ⟨_, rfl⟩
      rw [hn2] at hst
      replace hn2 := Lib.hid hn2
      generalize numF f (xs.take j) = n1 at *
      obtain ⟨p2, hp2⟩ : ∃ p2, power (mul f) 2 (j + 1) = p2 := ⟨_, rfl⟩
      rw [hp2] at hps
      replace hp2 := Lib.hid hp2
      generalize power (mul f) 2 j = p1 at *
      have hm1 := Lib.hid (fun w => mul_any f p1 z hp.1 hp.2 hz.1 hz.2 w)
      have hmb := mul_bound f p1 z
      have ha1 := fun w => add_any f n1 (mul f p1 z) hn.1 (by omega) hmb.1 (by omega) w
      rw [← hst] at ha1
      have ha2 := fun w => add_any f p1 p1 hp.1 hp.2 hp.1 hp.2 w
      rw [hps] at ha2
      generalize mul f p1 z = m1 at *
      replace ha1 := Lib.hid ha1
      replace ha2 := Lib.hid ha2
      replace hst := Lib.hid hst
      replace hps := Lib.hid hps
      go_upto_region 6 with (fail)
      refine wp_region_flow1 10 (by kernel_rfl) (by kernel_rfl) (by kernel_rfl) ?_
      apply Exists.intro
      refine ⟨fun ι _ φ hφ => ?_, fun wt hwt => ?_⟩
      · obtain ⟨q0, q1⟩ := Family.two hφ k1
        obtain ⟨q2, q3⟩ := Family.two hφ k2
        have q4 := fun i => hφ.cell hc0 i
        have q5 := fun i => hφ.cell hc1 i
        simp only [List.take_succ_cons, List.take_zero]
        repeat (go_big_quiet_step ((first
          | (go_at_call 37; exact flow_call hφ (hm1.out _))
          | (go_at_call 38; exact flow_call hφ (ha1.out _)))))
        exact wpQuiet_nil rfl
      replace hb := below_next hb hb.size hwt
      replace k0 := k0.up hwt
      replace k1 := k1.up hwt
      replace k2 := k2.up hwt
      clear hwt hc0 hc1
      simp only [List.drop_succ_cons, List.drop_zero]
      obtain ⟨s0, s1, s2, s3⟩ := blk2 k1
      go_upto_region 7 with (fail)
      refine name_wp (fun w5 => Below w.heap.size w w5 ∧ Holds w5 w.heap.size 0 ∧ Holds w5 (w.heap.size + 1) n2 ∧ Holds w5 (w.heap.size + 1 + 1) p1) ⟨below_store2 hb (by omega), k0.far (by omega), k1.set n2, k2.far (by omega)⟩ ?_
      clear hb k0 k1 k2 s0 s1 s2 s3
      rintro w5 ⟨hb, k0, k1, k2⟩
      obtain ⟨s0, s1, s2, s3⟩ := blk2 k2
      go_wp2_with fail
      refine call_then (ha2.out _) ?_
      intro w6 hv
      replace hb := below_next hb hb.size hv
      replace k0 := k0.up hv
      replace k1 := k1.up hv
      replace k2 := k2.up hv
      clear hv s0 s1 s2 s3
      obtain ⟨s0, s1, s2, s3⟩ := blk2 k2
      have hb7 := below_store2 hb (show w.heap.size ≤ w.heap.size + 1 + 1 by omega) (u := .int .u64 (lo p2)) (v := .int .u64 (hi p2))
      have k07 := k0.far (show w.heap.size ≠ w.heap.size + 1 + 1 by omega) (u := .int .u64 (lo p2)) (v := .int .u64 (hi p2))
      have k17 := k1.far (show w.heap.size + 1 ≠ w.heap.size + 1 + 1 by omega) (u := .int .u64 (lo p2)) (v := .int .u64 (hi p2))
      have k27 := k2.set p2
      clear hb k0 k1 k2
      go_wp2
      exact ⟨⟨j + 1, by omega, by go_num, hb7, k07, by rw [hn2.out]; exact k17, by rw [hp2.out]; exact k27⟩, by simp [intOf]; omega⟩
    · obtain rfl : N = j := by omega
      rw [List.take_of_length_le (by rw [hl.out]; exact Nat.le_refl _)] at k1
      have j1 : ¬ (N : Int) < (N : Int) := by omega
      obtain ⟨s0, s1, s2, s3⟩ := blk2 k1
      obtain ⟨t0, t1, t2, t3⟩ := blk2 k0
      obtain ⟨v, hv⟩ : ∃ v, numF f xs = v := ⟨_, rfl⟩
      rw [hv] at s0 s1
      replace hv := Lib.hid hv
      go_wp2
      have kk := k0.set v
      obtain ⟨z0, z1, _, _⟩ := blk2 kk
      exact bodyPost_ret (v := .agg #[.int .u64 (F.lo v), .int .u64 (F.hi v)]) (by simp [results, Tryz.results40, go_sem, z0, z1]) rfl ⟨by rw [hv.out], below_store2 hb (Nat.le_refl _)⟩
end Go.Proofs.YtgdokfchfgnbbaaGreat

/-
  What of a vector is summed, as the document says.
-/
namespace Go.Proofs.YtgdokfchfgnbbaaGreat
open Go.RowKit Flow F
set_option linter.unusedVariables false
set_option linter.unusedSimpArgs false

def RTrOut (L : List Int) (w : World) (e : Ending) (w' : World) : Prop := ∃ B d, e = .returned (.slice B L.length d) ∧ Below w.heap.size w w' ∧ ElemsAt w' B L
theorem trunc_take {x : Ci} (h : x.Good) (h23 : ¬ (x.k = 2 ∨ x.k = 3)) {xs : List Int} (hx : InF x.f xs) (hl : x.outN ≤ xs.length) : truncL x xs = xs.take x.outN := by
  have e1 : (truncL x xs).length = x.outN := truncL_length x xs
  refine List.ext_getElem (by rw [e1, List.length_take]; omega) fun i h1 h2 => ?_
  have hi : i < xs.length := by omega
  have hb := hx.at_ hi
  rw [List.getElem_take]
  have e : (truncL x xs)[i] = truncF x xs i := by simp [truncL]
  rw [e]
  unfold truncF
  rw [if_neg h23]
  rw [List.getD_eq_getElem?_getD, List.getElem?_eq_getElem hi] at hb ⊢
  exact add_zero_in hb.1 hb.2
theorem out_le_in {x : Ci} (h : x.Good) (h23 : ¬ (x.k = 2 ∨ x.k = 3)) : x.outN ≤ x.inN := by
  have := h.fits.k1
  have := h.fits.k5
  have := h.fits.l
  unfold Ci.outN Ci.inN
  by_cases h1 : x.k = 1
  · rw [if_pos (.inl h1), if_pos h1]; omega
  · rw [if_neg (by omega), if_neg h1, if_neg (by omega), if_neg (by omega)]
    split <;> omega
theorem in_out {x : Ci} (h : x.Good) (h23 : x.k = 2 ∨ x.k = 3) : x.inN = x.outN * x.b.toNat := by
  have := h.fits.k1
  unfold Ci.outN Ci.inN
  by_cases h2 : x.k = 2
  · rw [if_neg (by omega), if_pos h2, if_pos (.inr h2), Nat.one_mul]
  · rw [if_neg (by omega), if_neg h2, if_pos (by omega), if_neg (by omega), Nat.mul_comm]
theorem out_le {x : Ci} (h : x.Good) : x.outN ≤ 64 := by
  unfold Ci.outN
  have := h.fits.l
  have := h.fits.k1
  split <;> omega
end Go.Proofs.YtgdokfchfgnbbaaGreat

/-
  Is a vector right, as the document says?
-/
namespace Go.Proofs.YtgdokfchfgnbbaaGreat
open Go.RowKit Flow F
set_option linter.unusedVariables false
set_option linter.unusedSimpArgs false
attribute [local go_sem] eql_elem

theorem ones_take {xs : List Int} {j L : Nat} (hj : j < xs.length) : ones (xs.take (min (j + 1) L)) = ones (xs.take (min j L)) + if j < L then (xs.getD j 0).toNat else 0 := by
  by_cases h : j < L
  · rw [if_pos h, Nat.min_eq_left (by omega), Nat.min_eq_left (by omega), take_snocD hj, ones_append]
    simp [ones]
  · rw [if_neg h, Nat.min_eq_right (by omega), Nat.min_eq_right (by omega)]
    rfl
set_option maxRecDepth 20000 in
set_option maxHeartbeats 4000000 in
theorem rvalid_rest (x : Ci) (h : x.Good) (h4 : x.k ≠ 4) (h5 : x.k ≠ 5) (xs : List Int) (A : Option Addr) (N cp : Nat) (hl : xs.length = N) (hN : N = x.inN) (hx : InF x.f xs) (w : World) (hA : ElemsAt w A xs) : Calls Tryz.prog 15 #[rvl x, .slice A N cp] w fun e w' => e = .returned (.bool (validB x xs)) ∧ Below w.heap.size w w' := by
  have hl0 : 0 ≤ x.l := by
    by_cases h3 : 3 ≤ x.k
    · have := h.fits.l h3; omega
    · have := h.fits.l0 h3; omega
  have hz' := h.code
  have hIle := h.fits.in_le
  rw [← hN] at hIle
  obtain ⟨R, hR⟩ : ∃ R, validB x xs = R := ⟨_, rfl⟩
  have hvb := Lib.hid (fun (e : bitsB xs = false) => (hR.symm.trans (by unfold validB; rw [e]; rfl) : R = false))
  have hvt := Lib.hid (fun (e : bitsB xs = true) => (hR.symm.trans (by unfold validB; rw [e, Bool.true_and]) : R = (if x.k = 4 then decide (ones xs = 1) else if x.k = 5 then decide (ones (xs.take x.l.toNat) + offN x.w.toNat = said (xs.drop x.l.toNat)) else true)))
  rw [hR]
  clear hR
  obtain ⟨k, f, b, l, W, c⟩ := x
  have hC := fun w => rcheck_any k f b l W c w
  have hI := fun w => rin_any k f b l W c h.fits w
  unfold rvl at *
  rw [hz'] at hC
  rw [← hN] at hI
  replace hC := Lib.hid hC
  replace hI := Lib.hid hI
  replace hA := Lib.hid hA
  replace hl := Lib.hid hl
  replace hx := Lib.hid hx
  simp only at h4 h5 hvt hl0
  obtain ⟨nl, hnl⟩ := Int.eq_ofNat_of_zero_le hl0
  subst hnl
  have n4 : (k == 4) = false := by simpa using h4
  have n5 : (k == 5) = false := by simpa using h5
  replace hvt := Lib.hid (fun e => (hvt.out e).trans (by rw [if_neg h4, if_neg h5]))
  clear h h4 h5 hz' hN
  go_enter Tryz.func15, Tryz.ntmps15
  go_upto_region 1 with (fail)
  refine name_wp (fun w1 => Below w.heap.size w w1 ∧ w1.heap[w.heap.size]? = some (.cells #[.int .i64 k, .int .i64 f, .int .i64 b, .int .i64 (nl : Int), .int .i64 W, .int .i64 c] 47 (0, 0))) ⟨(Below.refl _ _).alloc (Nat.le_refl _) _, alloc_at rfl⟩ ?_
  rintro w1 ⟨hb, k0⟩
  obtain ⟨c0, c1, c2, c3, c4, c5⟩ := blk6 k0
  go_wp2_with fail
  refine call_then (hC.out _) ?_
  intro w2 hb2
  replace hb := below_next hb hb.size hb2
  replace k0 := keeps hb2 k0
  clear hb2 c0 c1 c2 c3 c4 c5
  obtain ⟨c0, c1, c2, c3, c4, c5⟩ := blk6 k0
  go_wp2_with fail
  refine call_then (hI.out _) ?_
  intro w2 hb2
  replace hb := below_next hb hb.size hb2
  replace k0 := keeps hb2 k0
  clear hb2 c0 c1 c2 c3 c4 c5
  obtain ⟨c0, c1, c2, c3, c4, c5⟩ := blk6 k0
  clear hC hI
  go_wp2
  clear c0 c1 c2 c3 c4 c5
  go_loopw [5, 6] (fun s i wr => ∃ j S : Nat, j ≤ N ∧ S ≤ j ∧ i = .int .i64 (j : Int) ∧ s = .int .i64 (S : Int) ∧ Hid (S = ones (xs.take (min j nl))) ∧ Hid (bitsB (xs.take j) = true) ∧ Below w.heap.size w wr ∧ wr.heap[w.heap.size]? = some (.cells #[.int .i64 k, .int .i64 f, .int .i64 b, .int .i64 (nl : Int), .int .i64 W, .int .i64 c] 47 (0, 0))) (fun _ i _ => N - (intOf i).toNat)
  case atStart => exact ⟨0, 0, Nat.zero_le _, Nat.le_refl _, rfl, rfl, Lib.hid (by simp [ones]), Lib.hid rfl, hb, k0⟩
  case round =>
    clear hb k0
    obtain ⟨j, S, hj, hSj, rfl, rfl, hS, hall, hb, k0⟩ := hrel
    obtain ⟨c0, c1, c2, c3, c4, c5⟩ := blk6 k0
    by_cases hlt : j < N
    · have j1 : (j : Int) < (N : Int) := by omega
      have j0 : (0 : Int) ≤ (j : Int) := by omega
      obtain ⟨p, o, rfl, hc0, hc1⟩ := (hA.out.up hb) j (by rw [hl.out]; exact hlt)
      have hz := hx.out.at_ (k := j) (by rw [hl.out]; exact hlt)
      have hsn := Lib.hid (take_snocD (l := xs) (k := j) (by rw [hl.out]; exact hlt))
      have hon := Lib.hid (ones_take (xs := xs) (j := j) (L := nl) (by rw [hl.out]; exact hlt))
      have hbad := Lib.hid (bitsB_of_take (l := xs) (k := j) (by rw [hl.out]; exact hlt))
      generalize xs.getD j 0 = z at *
      replace hz := Lib.hid hz
      by_cases hz0 : z = 0
      · subst hz0
        rw [show lo 0 = 0 by decide] at hc0
        rw [show hi 0 = 0 by decide] at hc1
        have hall2 : Hid (bitsB (xs.take (j + 1)) = true) := Lib.hid (by rw [hsn.out, bitsB_snoc, hall.out]; rfl)
        have hS2 : Hid (S = ones (xs.take (min (j + 1) nl))) := Lib.hid (by rw [hon.out, ← hS.out]; simp)
        by_cases hjl : j < nl
        · have l1 : (j : Int) < (nl : Int) := by omega
          clear hjl
          go_wp2
          exact ⟨⟨j + 1, S, by omega, by omega, by go_num, rfl, hS2, hall2, hb, k0⟩, by simp [intOf]; omega⟩
        · have l1 : ¬ (j : Int) < (nl : Int) := by omega
          clear hjl
          go_wp2
          exact ⟨⟨j + 1, S, by omega, by omega, by go_num, rfl, hS2, hall2, hb, k0⟩, by simp [intOf]; omega⟩
      · by_cases hz1 : z = 1
        · subst hz1
          rw [show lo 1 = 1 by decide] at hc0
          rw [show hi 1 = 0 by decide] at hc1
          have hall2 : Hid (bitsB (xs.take (j + 1)) = true) := Lib.hid (by rw [hsn.out, bitsB_snoc, hall.out]; rfl)
          clear hz0
          by_cases hjl : j < nl
          · have l1 : (j : Int) < (nl : Int) := by omega
            have hS2 : Hid (S + 1 = ones (xs.take (min (j + 1) nl))) := Lib.hid (by rw [hon.out, ← hS.out, if_pos hjl]; rfl)
            clear hjl
            go_wp2
            exact ⟨⟨j + 1, S + 1, by omega, by omega, by go_num, by go_num, hS2, hall2, hb, k0⟩, by simp [intOf]; omega⟩
          · have l1 : ¬ (j : Int) < (nl : Int) := by omega
            have hS2 : Hid (S = ones (xs.take (min (j + 1) nl))) := Lib.hid (by rw [hon.out, ← hS.out, if_neg hjl]; rfl)
            clear hjl
            go_wp2
            exact ⟨⟨j + 1, S, by omega, by omega, by go_num, rfl, hS2, hall2, hb, k0⟩, by simp [intOf]; omega⟩
        · have hvf := Lib.hid (hvb.out (hbad.out hz0 hz1))
          have e0 : (lo z == 0 && hi z == 0) = false := by
            have h1 := val_lohi z
            rw [Bool.and_eq_false_iff]
            by_cases h2 : lo z = 0
            · right; rw [beq_eq_false_iff_ne]; intro h3; rw [h2, h3] at h1; apply hz0; rw [← h1]; rfl
            · left; simpa using h2
          have e1 : (lo z == 1 && hi z == 0) = false := by
            have h1 := val_lohi z
            rw [Bool.and_eq_false_iff]
            by_cases h2 : lo z = 1
            · right; rw [beq_eq_false_iff_ne]; intro h3; rw [h2, h3] at h1; apply hz1; rw [← h1]; rfl
            · left; simpa using h2
          clear hz0 hz1
          go_wp2
          go_ret
          exact ⟨by rw [hvf.out]; rfl, hb⟩
    · obtain rfl : N = j := by omega
      rw [List.take_of_length_le (by rw [hl.out]; exact Nat.le_refl _)] at hall
      have j1 : ¬ (N : Int) < (N : Int) := by omega
      have hvf := Lib.hid (hvt.out hall.out)
      go_wp2
      go_ret
      exact ⟨by rw [hvf.out]; rfl, hb⟩
set_option maxRecDepth 20000 in
set_option maxHeartbeats 4000000 in
theorem rvalid_hist (x : Ci) (h : x.Good) (h4 : x.k = 4) (xs : List Int) (A : Option Addr) (N cp : Nat) (hl : xs.length = N) (hN : N = x.inN) (hx : InF x.f xs) (w : World) (hA : ElemsAt w A xs) : Calls Tryz.prog 15 #[rvl x, .slice A N cp] w fun e w' => e = .returned (.bool (validB x xs)) ∧ Below w.heap.size w w' := by
  have hL := h.fits.l (by omega)
  have hNl : N = x.l.toNat := by rw [hN]; unfold Ci.inN; rw [if_neg (by omega), if_neg (by omega), if_neg (by omega), if_pos h4]
  have hz' := h.code
  have hIle := h.fits.in_le
  rw [← hN] at hIle
  obtain ⟨R, hR⟩ : ∃ R, validB x xs = R := ⟨_, rfl⟩
  have hvb := Lib.hid (fun (e : bitsB xs = false) => (hR.symm.trans (by unfold validB; rw [e]; rfl) : R = false))
  have hvt := Lib.hid (fun (e : bitsB xs = true) => (hR.symm.trans (by unfold validB; rw [e, Bool.true_and]) : R = (if x.k = 4 then decide (ones xs = 1) else if x.k = 5 then decide (ones (xs.take x.l.toNat) + offN x.w.toNat = said (xs.drop x.l.toNat)) else true)))
  rw [hR]
  clear hR
  obtain ⟨k, f, b, l, W, c⟩ := x
  have hC := fun w => rcheck_any k f b l W c w
  have hI := fun w => rin_any k f b l W c h.fits w
  unfold rvl at *
  rw [hz'] at hC
  rw [← hN] at hI
  replace hC := Lib.hid hC
  replace hI := Lib.hid hI
  replace hA := Lib.hid hA
  replace hl := Lib.hid hl
  replace hx := Lib.hid hx
  simp only at h4 hvt hL hNl
  obtain ⟨nl, hnl⟩ := Int.eq_ofNat_of_zero_le (show 0 ≤ l by omega)
  subst hnl h4
  have hNl2 := Lib.hid (show N = nl by omega)
  replace hvt := Lib.hid (fun e => (hvt.out e).trans (by rw [if_pos rfl]))
  clear h hz' hN hNl
  go_enter Tryz.func15, Tryz.ntmps15
  go_upto_region 1 with (fail)
  refine name_wp (fun w1 => Below w.heap.size w w1 ∧ w1.heap[w.heap.size]? = some (.cells #[.int .i64 4, .int .i64 f, .int .i64 b, .int .i64 (nl : Int), .int .i64 W, .int .i64 c] 47 (0, 0))) ⟨(Below.refl _ _).alloc (Nat.le_refl _) _, alloc_at rfl⟩ ?_
  rintro w1 ⟨hb, k0⟩
  obtain ⟨c0, c1, c2, c3, c4, c5⟩ := blk6 k0
  go_wp2_with fail
  refine call_then (hC.out _) ?_
  intro w2 hb2
  replace hb := below_next hb hb.size hb2
  replace k0 := keeps hb2 k0
  clear hb2 c0 c1 c2 c3 c4 c5
  obtain ⟨c0, c1, c2, c3, c4, c5⟩ := blk6 k0
  go_wp2_with fail
  refine call_then (hI.out _) ?_
  intro w2 hb2
  replace hb := below_next hb hb.size hb2
  replace k0 := keeps hb2 k0
  clear hb2 c0 c1 c2 c3 c4 c5
  obtain ⟨c0, c1, c2, c3, c4, c5⟩ := blk6 k0
  clear hC hI
  go_wp2
  clear c0 c1 c2 c3 c4 c5
  go_loopw [5, 6] (fun s i wr => ∃ j S : Nat, j ≤ N ∧ S ≤ j ∧ i = .int .i64 (j : Int) ∧ s = .int .i64 (S : Int) ∧ Hid (S = ones (xs.take (min j nl))) ∧ Hid (bitsB (xs.take j) = true) ∧ Below w.heap.size w wr ∧ wr.heap[w.heap.size]? = some (.cells #[.int .i64 4, .int .i64 f, .int .i64 b, .int .i64 (nl : Int), .int .i64 W, .int .i64 c] 47 (0, 0))) (fun _ i _ => N - (intOf i).toNat)
  case atStart => exact ⟨0, 0, Nat.zero_le _, Nat.le_refl _, rfl, rfl, Lib.hid (by simp [ones]), Lib.hid rfl, hb, k0⟩
  case round =>
    clear hb k0
    obtain ⟨j, S, hj, hSj, rfl, rfl, hS, hall, hb, k0⟩ := hrel
    obtain ⟨c0, c1, c2, c3, c4, c5⟩ := blk6 k0
    by_cases hlt : j < N
    · have j1 : (j : Int) < (N : Int) := by omega
      have j0 : (0 : Int) ≤ (j : Int) := by omega
      obtain ⟨p, o, rfl, hc0, hc1⟩ := (hA.out.up hb) j (by rw [hl.out]; exact hlt)
      have hz := hx.out.at_ (k := j) (by rw [hl.out]; exact hlt)
      have hsn := Lib.hid (take_snocD (l := xs) (k := j) (by rw [hl.out]; exact hlt))
      have hon := Lib.hid (ones_take (xs := xs) (j := j) (L := nl) (by rw [hl.out]; exact hlt))
      have hbad := Lib.hid (bitsB_of_take (l := xs) (k := j) (by rw [hl.out]; exact hlt))
      generalize xs.getD j 0 = z at *
      replace hz := Lib.hid hz
      by_cases hz0 : z = 0
      · subst hz0
        rw [show lo 0 = 0 by decide] at hc0
        rw [show hi 0 = 0 by decide] at hc1
        have hall2 : Hid (bitsB (xs.take (j + 1)) = true) := Lib.hid (by rw [hsn.out, bitsB_snoc, hall.out]; rfl)
        have hS2 : Hid (S = ones (xs.take (min (j + 1) nl))) := Lib.hid (by rw [hon.out, ← hS.out]; simp)
        by_cases hjl : j < nl
        · have l1 : (j : Int) < (nl : Int) := by omega
          clear hjl
          go_wp2
          exact ⟨⟨j + 1, S, by omega, by omega, by go_num, rfl, hS2, hall2, hb, k0⟩, by simp [intOf]; omega⟩
        · have l1 : ¬ (j : Int) < (nl : Int) := by omega
          clear hjl
          go_wp2
          exact ⟨⟨j + 1, S, by omega, by omega, by go_num, rfl, hS2, hall2, hb, k0⟩, by simp [intOf]; omega⟩
      · by_cases hz1 : z = 1
        · subst hz1
          rw [show lo 1 = 1 by decide] at hc0
          rw [show hi 1 = 0 by decide] at hc1
          have hall2 : Hid (bitsB (xs.take (j + 1)) = true) := Lib.hid (by rw [hsn.out, bitsB_snoc, hall.out]; rfl)
          clear hz0
          by_cases hjl : j < nl
          · have l1 : (j : Int) < (nl : Int) := by omega
            have hS2 : Hid (S + 1 = ones (xs.take (min (j + 1) nl))) := Lib.hid (by rw [hon.out, ← hS.out, if_pos hjl]; rfl)
            clear hjl
            go_wp2
            exact ⟨⟨j + 1, S + 1, by omega, by omega, by go_num, by go_num, hS2, hall2, hb, k0⟩, by simp [intOf]; omega⟩
          · have l1 : ¬ (j : Int) < (nl : Int) := by omega
            have hS2 : Hid (S = ones (xs.take (min (j + 1) nl))) := Lib.hid (by rw [hon.out, ← hS.out, if_neg hjl]; rfl)
            clear hjl
            go_wp2
            exact ⟨⟨j + 1, S, by omega, by omega, by go_num, rfl, hS2, hall2, hb, k0⟩, by simp [intOf]; omega⟩
        · have hvf := Lib.hid (hvb.out (hbad.out hz0 hz1))
          have e0 : (lo z == 0 && hi z == 0) = false := by
            have h1 := val_lohi z
            rw [Bool.and_eq_false_iff]
            by_cases h2 : lo z = 0
            · right; rw [beq_eq_false_iff_ne]; intro h3; rw [h2, h3] at h1; apply hz0; rw [← h1]; rfl
            · left; simpa using h2
          have e1 : (lo z == 1 && hi z == 0) = false := by
            have h1 := val_lohi z
            rw [Bool.and_eq_false_iff]
            by_cases h2 : lo z = 1
            · right; rw [beq_eq_false_iff_ne]; intro h3; rw [h2, h3] at h1; apply hz1; rw [← h1]; rfl
            · left; simpa using h2
          clear hz0 hz1
          go_wp2
          go_ret
          exact ⟨by rw [hvf.out]; rfl, hb⟩
    · obtain rfl : N = j := by omega
      rw [List.take_of_length_le (by rw [hl.out]; exact Nat.le_refl _)] at hall
      have j1 : ¬ (N : Int) < (N : Int) := by omega
      have hvf := Lib.hid (hvt.out hall.out)
      have hS2 : S = ones xs := by rw [hS.out, List.take_of_length_le (by rw [hl.out]; have := hNl2.out; omega)]
      rw [← hS2] at hvf
      by_cases h1 : S = 1
      · have b1 : ((S : Int) == 1) = true := by simp; omega
        have hv2 := Lib.hid (hvf.out.trans (decide_eq_true h1))
        clear h1 hS2
        go_wp2
        go_ret
        exact ⟨by rw [hv2.out]; rfl, hb⟩
      · have b1 : ((S : Int) == 1) = false := by simp; omega
        have hv2 := Lib.hid (hvf.out.trans (decide_eq_false h1))
        clear h1 hS2
        go_wp2
        go_ret
        exact ⟨by rw [hv2.out]; rfl, hb⟩
theorem said_take {xs : List Int} {L t : Nat} (h : L + t < xs.length) : said ((xs.drop L).take (t + 1)) = said ((xs.drop L).take t) + (xs.getD (L + t) 0).toNat * 2 ^ t := by
  have h1 : t < (xs.drop L).length := by rw [List.length_drop]; omega
  rw [take_snocD h1, said_snoc, List.length_take, Nat.min_eq_left (by omega)]
  congr 3
  rw [List.getD_eq_getElem?_getD, List.getD_eq_getElem?_getD, List.getElem?_drop]
set_option maxRecDepth 20000 in
set_option maxHeartbeats 4000000 in
theorem rvalid_multi (x : Ci) (h : x.Good) (h5 : x.k = 5) (xs : List Int) (A : Option Addr) (N cp : Nat) (hl : xs.length = N) (hN : N = x.inN) (hx : InF x.f xs) (w : World) (hA : ElemsAt w A xs) : Calls Tryz.prog 15 #[rvl x, .slice A N cp] w fun e w' => e = .returned (.bool (validB x xs)) ∧ Below w.heap.size w w' := by
  have hL := h.fits.l (by omega)
  have hW := h.fits.w h5
  obtain ⟨nW, hnW⟩ := Int.eq_ofNat_of_zero_le (show 0 ≤ x.w by omega)
  have hNe : N = x.l.toNat + Lib.bitLen nW := by rw [hN]; unfold Ci.inN; rw [if_neg (by omega), if_neg (by omega), if_neg (by omega), if_neg (by omega), hnW]; simp
  have hbl := bl_le (W := nW) (by omega)
  have hole := offN_le (W := nW) (by omega)
  have hz' := h.code
  have hIle := h.fits.in_le
  rw [← hN] at hIle
  obtain ⟨R, hR⟩ : ∃ R, validB x xs = R := ⟨_, rfl⟩
  have hvb := Lib.hid (fun (e : bitsB xs = false) => (hR.symm.trans (by unfold validB; rw [e]; rfl) : R = false))
  have hvt := Lib.hid (fun (e : bitsB xs = true) => (hR.symm.trans (by unfold validB; rw [e, Bool.true_and]) : R = (if x.k = 4 then decide (ones xs = 1) else if x.k = 5 then decide (ones (xs.take x.l.toNat) + offN x.w.toNat = said (xs.drop x.l.toNat)) else true)))
  rw [hR]
  clear hR
  obtain ⟨k, f, b, l, W, c⟩ := x
  have hC := fun w => rcheck_any k f b l W c w
  have hI := fun w => rin_any k f b l W c h.fits w
  unfold rvl at *
  rw [hz'] at hC
  rw [← hN] at hI
  replace hC := Lib.hid hC
  replace hI := Lib.hid hI
  replace hA := Lib.hid hA
  replace hl := Lib.hid hl
  replace hx := Lib.hid hx
  simp only at h5 hvt hL hNe hW hnW
  obtain ⟨nl, hnl⟩ := Int.eq_ofNat_of_zero_le (show 0 ≤ l by omega)
  subst hnl h5 hnW
  simp only [Int.toNat_natCast] at hvt hNe
  have hof := Lib.hid (fun w => roffset_any 5 f b (nl : Int) c nW (by omega) w)
  replace hvt := Lib.hid (fun (e : bitsB xs = true) => ((hvt.out e).trans (by rw [if_neg (by omega), if_pos trivial]) : R = decide (ones (xs.take nl) + offN nW = said (xs.drop nl))))
  obtain ⟨O, hO⟩ : ∃ O, offN nW = O := ⟨_, rfl⟩
  rw [hO] at hole hof hvt
  clear hO
  have hNL : nl ≤ N := by omega
  have hN7 : N ≤ nl + 7 := by omega
  clear h hz' hN hNe hbl
  go_enter Tryz.func15, Tryz.ntmps15
  go_upto_region 1 with (fail)
  refine name_wp (fun w1 => Below w.heap.size w w1 ∧ w1.heap[w.heap.size]? = some (.cells #[.int .i64 5, .int .i64 f, .int .i64 b, .int .i64 (nl : Int), .int .i64 (nW : Int), .int .i64 c] 47 (0, 0))) ⟨(Below.refl _ _).alloc (Nat.le_refl _) _, alloc_at rfl⟩ ?_
  rintro w1 ⟨hb, k0⟩
  obtain ⟨c0, c1, c2, c3, c4, c5⟩ := blk6 k0
  go_wp2_with fail
  refine call_then (hC.out _) ?_
  intro w2 hb2
  replace hb := below_next hb hb.size hb2
  replace k0 := keeps hb2 k0
  clear hb2 c0 c1 c2 c3 c4 c5
  obtain ⟨c0, c1, c2, c3, c4, c5⟩ := blk6 k0
  go_wp2_with fail
  refine call_then (hI.out _) ?_
  intro w2 hb2
  replace hb := below_next hb hb.size hb2
  replace k0 := keeps hb2 k0
  clear hb2 c0 c1 c2 c3 c4 c5
  obtain ⟨c0, c1, c2, c3, c4, c5⟩ := blk6 k0
  clear hC hI
  go_wp2
  clear c0 c1 c2 c3 c4 c5
  go_loopw [5, 6] (fun s i wr => ∃ j S : Nat, j ≤ N ∧ S ≤ j ∧ i = .int .i64 (j : Int) ∧ s = .int .i64 (S : Int) ∧ Hid (S = ones (xs.take (min j nl))) ∧ Hid (bitsB (xs.take j) = true) ∧ Below w.heap.size w wr ∧ wr.heap[w.heap.size]? = some (.cells #[.int .i64 5, .int .i64 f, .int .i64 b, .int .i64 (nl : Int), .int .i64 (nW : Int), .int .i64 c] 47 (0, 0))) (fun _ i _ => N - (intOf i).toNat)
  case atStart => exact ⟨0, 0, Nat.zero_le _, Nat.le_refl _, rfl, rfl, Lib.hid (by simp [ones]), Lib.hid rfl, hb, k0⟩
  case round =>
    clear hb k0
    obtain ⟨j, S, hj, hSj, rfl, rfl, hS, hall, hb, k0⟩ := hrel
    obtain ⟨c0, c1, c2, c3, c4, c5⟩ := blk6 k0
    by_cases hlt : j < N
    · have j1 : (j : Int) < (N : Int) := by omega
      have j0 : (0 : Int) ≤ (j : Int) := by omega
      obtain ⟨p, o, rfl, hc0, hc1⟩ := (hA.out.up hb) j (by rw [hl.out]; exact hlt)
      have hz := hx.out.at_ (k := j) (by rw [hl.out]; exact hlt)
      have hsn := Lib.hid (take_snocD (l := xs) (k := j) (by rw [hl.out]; exact hlt))
      have hon := Lib.hid (ones_take (xs := xs) (j := j) (L := nl) (by rw [hl.out]; exact hlt))
      have hbad := Lib.hid (bitsB_of_take (l := xs) (k := j) (by rw [hl.out]; exact hlt))
      generalize xs.getD j 0 = z at *
      replace hz := Lib.hid hz
      by_cases hz0 : z = 0
      · subst hz0
        rw [show lo 0 = 0 by decide] at hc0
        rw [show hi 0 = 0 by decide] at hc1
        have hall2 : Hid (bitsB (xs.take (j + 1)) = true) := Lib.hid (by rw [hsn.out, bitsB_snoc, hall.out]; rfl)
        have hS2 : Hid (S = ones (xs.take (min (j + 1) nl))) := Lib.hid (by rw [hon.out, ← hS.out]; simp)
        by_cases hjl : j < nl
        · have l1 : (j : Int) < (nl : Int) := by omega
          clear hjl
          go_wp2
          exact ⟨⟨j + 1, S, by omega, by omega, by go_num, rfl, hS2, hall2, hb, k0⟩, by simp [intOf]; omega⟩
        · have l1 : ¬ (j : Int) < (nl : Int) := by omega
          clear hjl
          go_wp2
          exact ⟨⟨j + 1, S, by omega, by omega, by go_num, rfl, hS2, hall2, hb, k0⟩, by simp [intOf]; omega⟩
      · by_cases hz1 : z = 1
        · subst hz1
          rw [show lo 1 = 1 by decide] at hc0
          rw [show hi 1 = 0 by decide] at hc1
          have hall2 : Hid (bitsB (xs.take (j + 1)) = true) := Lib.hid (by rw [hsn.out, bitsB_snoc, hall.out]; rfl)
          clear hz0
          by_cases hjl : j < nl
          · have l1 : (j : Int) < (nl : Int) := by omega
            have hS2 : Hid (S + 1 = ones (xs.take (min (j + 1) nl))) := Lib.hid (by rw [hon.out, ← hS.out, if_pos hjl]; rfl)
            clear hjl
            go_wp2
            exact ⟨⟨j + 1, S + 1, by omega, by omega, by go_num, by go_num, hS2, hall2, hb, k0⟩, by simp [intOf]; omega⟩
          · have l1 : ¬ (j : Int) < (nl : Int) := by omega
            have hS2 : Hid (S = ones (xs.take (min (j + 1) nl))) := Lib.hid (by rw [hon.out, ← hS.out, if_neg hjl]; rfl)
            clear hjl
            go_wp2
            exact ⟨⟨j + 1, S, by omega, by omega, by go_num, rfl, hS2, hall2, hb, k0⟩, by simp [intOf]; omega⟩
        · have hvf := Lib.hid (hvb.out (hbad.out hz0 hz1))
          have e0 : (lo z == 0 && hi z == 0) = false := by
            have h1 := val_lohi z
            rw [Bool.and_eq_false_iff]
            by_cases h2 : lo z = 0
            · right; rw [beq_eq_false_iff_ne]; intro h3; rw [h2, h3] at h1; apply hz0; rw [← h1]; rfl
            · left; simpa using h2
          have e1 : (lo z == 1 && hi z == 0) = false := by
            have h1 := val_lohi z
            rw [Bool.and_eq_false_iff]
            by_cases h2 : lo z = 1
            · right; rw [beq_eq_false_iff_ne]; intro h3; rw [h2, h3] at h1; apply hz1; rw [← h1]; rfl
            · left; simpa using h2
          clear hz0 hz1
          go_wp2
          go_ret
          exact ⟨by rw [hvf.out]; rfl, hb⟩
    · obtain rfl : N = j := by omega
      rw [List.take_of_length_le (by rw [hl.out]; exact Nat.le_refl _)] at hall
      have j1 : ¬ (N : Int) < (N : Int) := by omega
      have hvf := hvt.out hall.out
      have hS2 : S = ones (xs.take nl) := by rw [hS.out, Nat.min_eq_right hNL]
      rw [← hS2] at hvf
      replace hvf := Lib.hid hvf
      have hSn : S ≤ 100 := by
        rw [hS2]
        have := ones_le (bitsB_take hall.out nl)
        rw [List.length_take] at this
        omega
      clear hS2
      go_wp2
      clear c0 c1 c2 c3 c4 c5
      go_loopw [9, 7, 8] (fun i n p wr => ∃ t V P : Nat, nl + t ≤ N ∧ V < P ∧ P ≤ 128 ∧ Hid (P = 2 ^ t) ∧ Hid (V = said ((xs.drop nl).take t)) ∧ i = .int .i64 ((nl + t : Nat) : Int) ∧ n = .int .i64 (V : Int) ∧ p = .int .i64 (P : Int) ∧ Below w.heap.size w wr ∧ wr.heap[w.heap.size]? = some (.cells #[.int .i64 5, .int .i64 f, .int .i64 b, .int .i64 (nl : Int), .int .i64 (nW : Int), .int .i64 c] 47 (0, 0))) (fun i _ _ _ => N - (intOf i).toNat)
      case atStart => exact ⟨0, 0, 1, by omega, by omega, by omega, Lib.hid rfl, Lib.hid (by simp [said]), by rw [Nat.add_zero], rfl, rfl, hb, k0⟩
      case round =>
        clear hb k0
        obtain ⟨t, V, P, ht, hVP, hP1, hP, hV, rfl, rfl, rfl, hb, k0⟩ := hrel
        obtain ⟨c0, c1, c2, c3, c4, c5⟩ := blk6 k0
        obtain ⟨q, hq⟩ : ∃ q, nl + t = q := ⟨_, rfl⟩
        rw [hq]
        by_cases hltq : q < N
        · have e1 : (q : Int) < (N : Int) := by omega
          have e0 : (0 : Int) ≤ (q : Int) := by omega
          obtain ⟨p, o, rfl, hc0, hc1⟩ := (hA.out.up hb) q (by rw [hl.out]; exact hltq)
          have hbit : xs.getD q 0 = 0 ∨ xs.getD q 0 = 1 := by
            have := hall.out
            unfold bitsB at this
            rw [List.all_eq_true] at this
            rw [List.getD_eq_getElem?_getD, List.getElem?_eq_getElem (by rw [hl.out]; exact hltq)]
            simpa using this _ (List.getElem_mem _)
          have hsd := said_take (xs := xs) (L := nl) (t := t) (by rw [hq, hl.out]; exact hltq)
          rw [hq, ← hP.out, ← hV.out] at hsd
          have hPP : P * 2 ≤ 128 := by
            have h9 : 2 ^ (t + 1) ≤ 2 ^ 7 := Nat.pow_le_pow_right (by omega) (by omega)
            rw [Nat.pow_succ, ← hP.out] at h9
            omega
          have hP2 : Hid (P * 2 = 2 ^ (t + 1)) := Lib.hid (by rw [Nat.pow_succ, ← hP.out])
          have hq1 : ((nl + (t + 1) : Nat) : Int) = (q : Int) + 1 := by omega
          generalize xs.getD q 0 = z at *
          rcases hbit with rfl | rfl
          · rw [show lo 0 = 0 by decide] at hc0
            have hV2 : Hid (V = said ((xs.drop nl).take (t + 1))) := Lib.hid (by rw [hsd]; simp)
            clear hsd hc1
            replace hq := Lib.hid hq
            go_wp2
            exact ⟨⟨t + 1, V, P * 2, by have := hq.out; omega, by omega, hPP, hP2, hV2, by rw [hq1], by go_num, by go_num, hb, k0⟩, by simp [intOf]; omega⟩
          · rw [show lo 1 = 1 by decide] at hc0
            have hV2 : Hid (V + P = said ((xs.drop nl).take (t + 1))) := Lib.hid (by rw [hsd]; simp)
            clear hsd hc1
            replace hq := Lib.hid hq
            go_wp2
            exact ⟨⟨t + 1, V + P, P * 2, by have := hq.out; omega, by omega, hPP, hP2, hV2, by rw [hq1], by go_num, by go_num, hb, k0⟩, by simp [intOf]; omega⟩
        · obtain rfl : N = q := by omega
          have e1 : ¬ (N : Int) < (N : Int) := by omega
          have hVs : V = said (xs.drop nl) := by rw [hV.out, List.take_of_length_le (by rw [List.length_drop, hl.out]; omega)]
          rw [← hVs] at hvf
          clear hVs
          replace hq := Lib.hid hq
          obtain ⟨U, hU⟩ : ∃ U, S + O = U := ⟨_, rfl⟩
          have zU : (S : Int) + (O : Int) = (U : Int) := by omega
          have zU2 : IntKind.i64.wrap ((S : Int) + (O : Int)) = (U : Int) := wrap_i (by omega) (by omega)
          rw [hU] at hvf
          replace hU := Lib.hid hU
          by_cases hUV : U = V
          · have b1 : ((U : Int) == (V : Int)) = true := by simp; omega
            have hv2 := Lib.hid (hvf.out.trans (decide_eq_true hUV))
            clear hUV
            go_wp2_with fail
            refine call_then (hof.out _) ?_
            intro w9 hv
            replace hb := below_next hb hb.size hv
            clear hv c0 c1 c2 c3 c4 c5
            go_wp2
            go_ret
            exact ⟨by rw [hv2.out]; rfl, hb⟩
          · have b1 : ((U : Int) == (V : Int)) = false := by simp; omega
            have hv2 := Lib.hid (hvf.out.trans (decide_eq_false hUV))
            clear hUV
            go_wp2_with fail
            refine call_then (hof.out _) ?_
            intro w9 hv
            replace hb := below_next hb hb.size hv
            clear hv c0 c1 c2 c3 c4 c5
            go_wp2
            go_ret
            exact ⟨by rw [hv2.out]; rfl, hb⟩
theorem rvalid_ok (x : Ci) (h : x.Good) (xs : List Int) (A : Option Addr) (N cp : Nat) (hl : xs.length = N) (hN : N = x.inN) (hx : InF x.f xs) (w : World) (hA : ElemsAt w A xs) : Calls Tryz.prog 15 #[rvl x, .slice A N cp] w fun e w' => e = .returned (.bool (validB x xs)) ∧ Below w.heap.size w w' := by
  by_cases h4 : x.k = 4
  · exact rvalid_hist x h h4 xs A N cp hl hN hx w hA
  · by_cases h5 : x.k = 5
    · exact rvalid_multi x h h5 xs A N cp hl hN hx w hA
    · exact rvalid_rest x h h4 h5 xs A N cp hl hN hx w hA
end Go.Proofs.YtgdokfchfgnbbaaGreat

/-
  A vector of so many elements, as the law makes it.
-/
namespace Go.Proofs.YtgdokfchfgnbbaaGreat
open Go.RowKit Flow F
set_option linter.unusedVariables false
set_option linter.unusedSimpArgs false
attribute [local go_sem] eql_elem

theorem InF.set {f : Int} {xs : List Int} (h : InF f xs) {j : Nat} {z : Int} (hz : 0 ≤ z ∧ z < M f) : InF f (xs.set j z) := fun x hx => by
  rcases List.mem_or_eq_of_mem_set hx with h1 | rfl
  · exact h x h1
  · exact hz
def VecOut (f : Int) (I : Nat) (w : World) (e : Ending) (w' : World) : Prop := ∃ g xs, e = .returned (.slice (some ⟨g, 0, none⟩) I I) ∧ Below w.heap.size w w' ∧ w.heap.size ≤ g ∧ Row w' g xs ∧ xs.length = I ∧ InF f xs
set_option maxRecDepth 20000 in
set_option maxHeartbeats 4000000 in
theorem vec_any (x : Ci) (h : x.Good) (ls : List Int) (A : Option Addr) (n cp : Nat) (sm : Bool) (hl : ls.length = n) (hn : n ≤ 60) (hls : ElemsOK ls) (w : World) (hA : ElemsAt w A ls) :
    Calls Tryz.prog 6 #[cvl x, .slice A n cp, .bool sm] w (VecOut x.f x.inN w) := by
  have hI := fun w => inup_any x h w
  have hle := h.fits.in_le
  have hf := h.f
  obtain ⟨k, f, b, l, W, c⟩ := x
  unfold cvl at *
  simp only at hI hf
  have hmk := make_elems (Ci.mk k f b l W c).inN (by omega)
  generalize (Ci.mk k f b l W c).inN = I at *
  have zf : IntKind.i64.wrap f = f := by rcases hf with rfl | rfl <;> rfl
  have hM := M_big f
  have hMl := M_lt f
  replace hI := Lib.hid hI
  replace hA := Lib.hid hA
  replace hl := Lib.hid hl
  replace hls := Lib.hid hls
  clear h
  go_enter Tryz.func6, Tryz.ntmps6
  go_upto_region 1 with (fail)
  refine name_wp (fun w1 => Below w.heap.size w w1 ∧ w1.heap[w.heap.size]? = some (.cells #[.int .u8 k, .int .u8 f, .int .i64 b, .int .i64 l, .int .i64 W, .int .i64 c] 29 (0, 0))) ⟨(Below.refl _ _).alloc (Nat.le_refl _) _, alloc_at rfl⟩ ?_
  rintro w1 ⟨hb, k0⟩
  obtain ⟨c0, c1, c2, c3, c4, c5⟩ := blk6 k0
  go_wp2_with fail
  refine call_then (hI.out _) ?_
  intro w2 hb2
  replace hb := below_next hb hb.size hb2
  replace k0 := keeps hb2 k0
  clear hb2 c0 c1 c2 c3 c4 c5
  obtain ⟨c0, c1, c2, c3, c4, c5⟩ := blk6 k0
  clear hI
  go_upto_region 2 with (fail)
  have hBw := hb.size
  have hpB := lt_of_get k0
  refine name_wp (fun w3 => Below w.heap.size w w3 ∧ w3.heap[w.heap.size]? = some (.cells #[.int .u8 k, .int .u8 f, .int .i64 b, .int .i64 l, .int .i64 W, .int .i64 c] 29 (0, 0)) ∧ Row w3 w2.heap.size (List.replicate I 0)) ⟨hb.alloc hb.size _, alloc_keeps k0, alloc_at rfl⟩ ?_
  clear hb k0 hmk c0 c1 c2 c3 c4 c5
  generalize w2.heap.size = g at *
  rintro w3 ⟨hb, k0, hr⟩
  clear w2
  replace hBw := Lib.hid hBw
  replace hpB := Lib.hid hpB
  go_wp2
  go_loopw [14] (fun i wr => ∃ (j : Nat) (xs : List Int), j ≤ I ∧ xs.length = I ∧ InF f xs ∧ i = .int .i64 (j : Int) ∧ Below w.heap.size w wr ∧ wr.heap[w.heap.size]? = some (.cells #[.int .u8 k, .int .u8 f, .int .i64 b, .int .i64 l, .int .i64 W, .int .i64 c] 29 (0, 0)) ∧ Row wr g xs) (fun i _ => I - (intOf i).toNat)
  case atStart => exact ⟨0, _, Nat.zero_le _, by simp, fun x hx => by rw [List.eq_of_mem_replicate hx]; omega, rfl, hb, k0, hr⟩
  case round =>
    clear hb k0 hr
    obtain ⟨j, xs, hj, hxl, hxs, rfl, hb, k0, hr⟩ := hrel
    obtain ⟨c0, c1, c2, c3, c4, c5⟩ := blk6 k0
    by_cases hlt : j < I
    · have j1 : (j : Int) < (I : Int) := by omega
      have j0 : (0 : Int) ≤ (j : Int) := by omega
      by_cases hn0 : n = 0
      · subst hn0
        go_wp2
        exact ⟨⟨j + 1, xs, by omega, hxl, hxs, by go_num, hb, k0, hr⟩, by simp [intOf]; omega⟩
      · have b1 : ((n : Int) == 0) = false := by simp; omega
        have n0 : (n : Int) ≠ 0 := by omega
        obtain ⟨q, hq⟩ : ∃ q, j % n = q := ⟨_, rfl⟩
        have hqn : q < n := by rw [← hq]; exact Nat.mod_lt _ (by omega)
        have hti : (j : Int).tmod (n : Int) = (q : Int) := by rw [← hq]; rfl
        have q0 : (0 : Int) ≤ (q : Int) := by omega
        have q1 : (q : Int) < (n : Int) := by omega
        have zq : IntKind.i64.wrap (q : Int) = (q : Int) := wrap_i rfl (by omega)
        obtain ⟨p, o, rfl, hc0, hc1⟩ := (hA.out.up hb) q (by rw [hl.out]; exact hqn)
        have hz := hls.out.at_ (k := q) (by rw [hl.out]; exact hqn)
        generalize ls.getD q 0 = z at *
        have hof := of_any f z hz.1 hz.2
        have hT : 0 ≤ redu f z ∧ redu f z < M f := ⟨redu_nonneg f z, redu_lt f z⟩
        generalize redu f z = T at *
        replace hof := Lib.hid hof
        replace hq := Lib.hid hq
        replace hz := Lib.hid hz
        have tl := lo_lt T
        have tl0 := lo_nonneg T
        cases sm with
        | false =>
          go_upto_region 6 with (fail)
          clear c0 c1 c2 c3 c4 c5
          refine wp_region_flow1 14 (by kernel_rfl) (by kernel_rfl) (by kernel_rfl) ?_
          apply Exists.intro
          refine ⟨fun ι _ φ hφ => ?_, fun wt hwt => ?_⟩
          · have q1 := fun i => (blk6 (keeps (hφ.old i) k0)).2.1
            have q8 := fun i => hφ.cell hc0 i
            have q9 := fun i => hφ.cell hc1 i
            simp only [List.take_succ_cons, List.take_zero]
            repeat (go_big_quiet_step ((go_at_call 19; exact flow_call hφ (hof.out _))))
            exact wpQuiet_nil rfl
          replace hb := below_next hb hb.size hwt
          replace k0 := keeps hwt k0
          replace hr := hr.up hwt
          clear hwt hc0 hc1
          simp only [List.drop_succ_cons, List.drop_zero]
          have s0 := hr.lo (show j < xs.length by omega)
          have s1 := hr.hi (show j < xs.length by omega)
          have f0 := hr.free (j * 2)
          have f1 := hr.free (j * 2 + 1)
          have hr4 := hr.set (show j < xs.length by omega) (T)
          have hb4 := below_store2' hb hBw.out (u := .int .u64 (lo (T))) (v := .int .u64 (hi (T))) (i := j * 2) (k := j * 2 + 1)
          have k4 := store2_farx k0 (show w.heap.size ≠ g by have := hpB.out; omega) (u := .int .u64 (lo (T))) (v := .int .u64 (hi (T))) (i := j * 2) (j := j * 2 + 1)
          have hxs4 : InF f (xs.set j (T)) := InF.set hxs hT
          have hl4 : (xs.set j (T)).length = I := by rw [List.length_set]; exact hxl
          replace hr4 := Lib.hid hr4
          replace hb4 := Lib.hid hb4
          replace k4 := Lib.hid k4
          replace hxs4 := Lib.hid hxs4
          replace hl4 := Lib.hid hl4
          clear hb k0 hr
          go_wp2
          exact ⟨⟨j + 1, _, by omega, hl4.out, hxs4.out, by go_num, hb4.out, k4.out, hr4.out⟩, by simp [intOf]; omega⟩
        | true =>
          go_upto_region 6 with (fail)
          clear c0 c1 c2 c3 c4 c5
          refine wp_region_flow1 14 (by kernel_rfl) (by kernel_rfl) (by kernel_rfl) ?_
          apply Exists.intro
          refine ⟨fun ι _ φ hφ => ?_, fun wt hwt => ?_⟩
          · have q1 := fun i => (blk6 (keeps (hφ.old i) k0)).2.1
            have q8 := fun i => hφ.cell hc0 i
            have q9 := fun i => hφ.cell hc1 i
            simp only [List.take_succ_cons, List.take_zero]
            repeat (go_big_quiet_step ((go_at_call 19; exact flow_call hφ (hof.out _))))
            exact wpQuiet_nil rfl
          replace hb := below_next hb hb.size hwt
          replace k0 := keeps hwt k0
          replace hr := hr.up hwt
          clear hwt hc0 hc1
          simp only [List.drop_succ_cons, List.drop_zero]
          have s0 := hr.lo (show j < xs.length by omega)
          have s1 := hr.hi (show j < xs.length by omega)
          have f0 := hr.free (j * 2)
          have f1 := hr.free (j * 2 + 1)
          have hr4 := hr.set (show j < xs.length by omega) (T)
          have hb4 := below_store2' hb hBw.out (u := .int .u64 (lo (T))) (v := .int .u64 (hi (T))) (i := j * 2) (k := j * 2 + 1)
          have k4 := store2_farx k0 (show w.heap.size ≠ g by have := hpB.out; omega) (u := .int .u64 (lo (T))) (v := .int .u64 (hi (T))) (i := j * 2) (j := j * 2 + 1)
          have hxs4 : InF f (xs.set j (T)) := InF.set hxs hT
          have hl4 : (xs.set j (T)).length = I := by rw [List.length_set]; exact hxl
          replace hr4 := Lib.hid hr4
          replace hb4 := Lib.hid hb4
          replace k4 := Lib.hid k4
          replace hxs4 := Lib.hid hxs4
          replace hl4 := Lib.hid hl4
          clear hb k0 hr
          go_upto_region 7 with (fail)
          refine name_wp (fun w5 => Below w.heap.size w w5 ∧ w5.heap[w.heap.size]? = some (.cells #[.int .u8 k, .int .u8 f, .int .i64 b, .int .i64 l, .int .i64 W, .int .i64 c] 29 (0, 0)) ∧ Row w5 g (xs.set j T)) ⟨hb4.out, k4.out, hr4.out⟩ ?_
          rintro w5 ⟨hb, k0, hr⟩
          have hg : (xs.set j T).getD j 0 = T := by simp [List.getD_eq_getElem?_getD, hxl, hlt]
          replace hxs := hxs4.out
          replace hxl := hl4.out
          clear hb4 k4 hr4 hxs4 hl4 s0 s1 f0 f1
          generalize xs.set j T = ys at *
          obtain ⟨V, hV⟩ := Int.eq_ofNat_of_zero_le tl0
          obtain ⟨V2, v1, z1, -, z2⟩ := mod_two V
          have e1 : lo (V2 : Int) = V2 := by unfold lo; omega
          have e2 : hi (V2 : Int) = 0 := by unfold hi; omega
          have s0 := hr.lo (show j < ys.length by omega)
          have s1 := hr.hi (show j < ys.length by omega)
          have f0 := hr.free (j * 2)
          have f1 := hr.free (j * 2 + 1)
          have hr4 := hr.set (show j < ys.length by omega) ((V2 : Int))
          have hb4 := below_store2' hb hBw.out (u := .int .u64 (lo ((V2 : Int)))) (v := .int .u64 (hi ((V2 : Int)))) (i := j * 2) (k := j * 2 + 1)
          have k4 := store2_farx k0 (show w.heap.size ≠ g by have := hpB.out; omega) (u := .int .u64 (lo ((V2 : Int)))) (v := .int .u64 (hi ((V2 : Int)))) (i := j * 2) (j := j * 2 + 1)
          have hxs4 : InF f (ys.set j ((V2 : Int))) := InF.set hxs ⟨by omega, by omega⟩
          have hl4 : (ys.set j ((V2 : Int))).length = I := by rw [List.length_set]; exact hxl
          replace hr4 := Lib.hid hr4
          replace hb4 := Lib.hid hb4
          replace k4 := Lib.hid k4
          replace hxs4 := Lib.hid hxs4
          replace hl4 := Lib.hid hl4
          rw [hg, hV] at s0
          rw [e1, e2] at hb4 k4 hr4
          clear hb k0 hr
          go_wp2
          exact ⟨⟨j + 1, _, by omega, hl4.out, hxs4.out, by go_num, hb4.out, k4.out, hr4.out⟩, by simp [intOf]; omega⟩
    · obtain rfl : I = j := by omega
      have j1 : ¬ (I : Int) < (I : Int) := by omega
      go_wp2
      go_ret
      exact ⟨g, xs, rfl, hb, hBw.out, hr, hxl, hxs⟩
end Go.Proofs.YtgdokfchfgnbbaaGreat
