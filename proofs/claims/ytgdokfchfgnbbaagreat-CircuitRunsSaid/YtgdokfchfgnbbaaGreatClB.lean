/-
  Joint randomness, as the law makes it.
-/
import Derived.Test.YtgdokfchfgnbbaaGreatDN
import Derived.Test.YtgdokfchfgnbbaaGreatDJ
namespace Go.Proofs.YtgdokfchfgnbbaaGreat
open Go.RowKit Flow F
set_option linter.unusedVariables false
set_option linter.unusedSimpArgs false
attribute [local go_sem] eql_elem

theorem joint_le {x : Ci} (h : x.Good) : x.jointN ≤ 512 := by
  have := h.calls
  have h1 : x.callsN ≤ 511 := by omega
  unfold Ci.jointN
  repeat (first | omega | split)
set_option maxRecDepth 20000 in
set_option maxHeartbeats 4000000 in
theorem jvec_any (x : Ci) (h : x.Good) (ls : List Int) (A : Option Addr) (n cp : Nat) (hl : ls.length = n) (hn : n ≤ 60) (hls : ElemsOK ls) (w : World) (hA : ElemsAt w A ls) :
    Calls Tryz.prog 7 #[cvl x, .slice A n cp, .int .i64 1] w (VecOut x.f x.jointN w) := by
  have hI := fun w => joint_any x h w
  have hle := joint_le h
  have hf := h.f
  obtain ⟨k, f, b, l, W, c⟩ := x
  unfold cvl at *
  simp only at hI hf
  have hmk := make_elems (Ci.mk k f b l W c).jointN (by omega)
  generalize (Ci.mk k f b l W c).jointN = I at *
  have zf : IntKind.i64.wrap f = f := by rcases hf with rfl | rfl <;> rfl
  have hM := M_big f
  have hMl := M_lt f
  replace hI := Lib.hid hI
  replace hA := Lib.hid hA
  replace hl := Lib.hid hl
  replace hls := Lib.hid hls
  clear h
  go_enter Tryz.func7, Tryz.ntmps7
  go_upto_region 1 with (fail)
  refine name_wp (fun w1 => Below w.heap.size w w1 ∧ w1.heap[w.heap.size]? = some (.cells #[.int .u8 k, .int .u8 f, .int .i64 b, .int .i64 l, .int .i64 W, .int .i64 c] 29 (0, 0))) ⟨(Below.refl _ _).alloc (Nat.le_refl _) _, alloc_at rfl⟩ ?_
  rintro w1 ⟨hb, k0⟩
  obtain ⟨c0, c1, c2, c3, c4, c5⟩ := blk6 k0
  go_wp2_with fail
  refine call_then (hI.out _) ?_
  intro w2 hb2
  replace hb := below_next hb hb.size hb2
  replace k0 := keeps hb2 k0
  clear hb2 c0 c1 c2 c3 c4 c5
  obtain ⟨c0, c1, c2, c3, c4, c5⟩ := blk6 k0
  clear hI
  go_upto_region 2 with (fail)
  have hBw := hb.size
  have hpB := lt_of_get k0
  refine name_wp (fun w3 => Below w.heap.size w w3 ∧ w3.heap[w.heap.size]? = some (.cells #[.int .u8 k, .int .u8 f, .int .i64 b, .int .i64 l, .int .i64 W, .int .i64 c] 29 (0, 0)) ∧ Row w3 w2.heap.size (List.replicate I 0)) ⟨hb.alloc hb.size _, alloc_keeps k0, alloc_at rfl⟩ ?_
  clear hb k0 hmk c0 c1 c2 c3 c4 c5
  generalize w2.heap.size = g at *
  rintro w3 ⟨hb, k0, hr⟩
  clear w2
  replace hBw := Lib.hid hBw
  replace hpB := Lib.hid hpB
  go_wp2
  go_loopw [16] (fun i wr => ∃ (j : Nat) (xs : List Int), j ≤ I ∧ xs.length = I ∧ InF f xs ∧ i = .int .i64 (j : Int) ∧ Below w.heap.size w wr ∧ wr.heap[w.heap.size]? = some (.cells #[.int .u8 k, .int .u8 f, .int .i64 b, .int .i64 l, .int .i64 W, .int .i64 c] 29 (0, 0)) ∧ Row wr g xs) (fun i _ => I - (intOf i).toNat)
  case atStart => exact ⟨0, _, Nat.zero_le _, by simp, fun x hx => by rw [List.eq_of_mem_replicate hx]; omega, rfl, hb, k0, hr⟩
  case round =>
    clear hb k0 hr
    obtain ⟨j, xs, hj, hxl, hxs, rfl, hb, k0, hr⟩ := hrel
    obtain ⟨c0, c1, c2, c3, c4, c5⟩ := blk6 k0
    by_cases hlt : j < I
    · have j1 : (j : Int) < (I : Int) := by omega
      have j0 : (0 : Int) ≤ (j : Int) := by omega
      by_cases hn0 : n = 0
      · subst hn0
        go_wp2
        exact ⟨⟨j + 1, xs, by omega, hxl, hxs, by go_num, hb, k0, hr⟩, by simp [intOf]; omega⟩
      · have b1 : (0 : Int) < (n : Int) := by omega
        have n0 : (n : Int) ≠ 0 := by omega
        obtain ⟨q, hq⟩ : ∃ q, (j * 7 + 3) % n = q := ⟨_, rfl⟩
        have hqn : q < n := by rw [← hq]; exact Nat.mod_lt _ (by omega)
        obtain ⟨a, ha⟩ : ∃ a : Int, (j : Int) * 7 = a := ⟨_, rfl⟩
        have wa : IntKind.i64.wrap a = a := by rw [IntKind.wrap_i64]; omega
        obtain ⟨b7, hb7⟩ : ∃ b7 : Int, a + 3 = b7 := ⟨_, rfl⟩
        have wb : IntKind.i64.wrap b7 = b7 := by rw [IntKind.wrap_i64]; omega
        have hbn : b7 = ((j * 7 + 3 : Nat) : Int) := by omega
        have hti : b7.tmod (n : Int) = (q : Int) := by rw [hbn, ← hq]; rfl
        have a0 : 0 ≤ a := by omega
        have a1 : a ≤ 4000 := by omega
        have b0 : 0 ≤ b7 := by omega
        have q0 : (0 : Int) ≤ (q : Int) := by omega
        have q1 : (q : Int) < (n : Int) := by omega
        have zq : IntKind.i64.wrap (q : Int) = (q : Int) := wrap_i rfl (by omega)
        obtain ⟨p, o, rfl, hc0, hc1⟩ := (hA.out.up hb) q (by rw [hl.out]; exact hqn)
        have hz := hls.out.at_ (k := q) (by rw [hl.out]; exact hqn)
        generalize ls.getD q 0 = z at *
        have hof := of_any f z hz.1 hz.2
        have hT : 0 ≤ redu f z ∧ redu f z < M f := ⟨redu_nonneg f z, redu_lt f z⟩
        generalize redu f z = T at *
        replace hof := Lib.hid hof
        replace hq := Lib.hid hq
        replace hz := Lib.hid hz
        replace hbn := Lib.hid hbn
        clear a1
        go_upto_region 6 with (fail)
        clear c0 c1 c2 c3 c4 c5
        refine wp_region_flow1 16 (by kernel_rfl) (by kernel_rfl) (by kernel_rfl) ?_
        apply Exists.intro
        refine ⟨fun ι _ φ hφ => ?_, fun wt hwt => ?_⟩
        · have q1 := fun i => (blk6 (keeps (hφ.old i) k0)).2.1
          have q8 := fun i => hφ.cell hc0 i
          have q9 := fun i => hφ.cell hc1 i
          simp only [List.take_succ_cons, List.take_zero]
          repeat (go_big_quiet_step ((go_at_call 19; exact flow_call hφ (hof.out _))))
          exact wpQuiet_nil rfl
        replace hb := below_next hb hb.size hwt
        replace k0 := keeps hwt k0
        replace hr := hr.up hwt
        clear hwt hc0 hc1 ha hb7 hti wa wb
        simp only [List.drop_succ_cons, List.drop_zero]
        have s0 := hr.lo (show j < xs.length by omega)
        have s1 := hr.hi (show j < xs.length by omega)
        have f0 := hr.free (j * 2)
        have f1 := hr.free (j * 2 + 1)
        have hr4 := hr.set (show j < xs.length by omega) (T)
        have hb4 := below_store2' hb hBw.out (u := .int .u64 (lo (T))) (v := .int .u64 (hi (T))) (i := j * 2) (k := j * 2 + 1)
        have k4 := store2_farx k0 (show w.heap.size ≠ g by have := hpB.out; omega) (u := .int .u64 (lo (T))) (v := .int .u64 (hi (T))) (i := j * 2) (j := j * 2 + 1)
        have hxs4 : InF f (xs.set j (T)) := InF.set hxs hT
        have hl4 : (xs.set j (T)).length = I := by rw [List.length_set]; exact hxl
        replace hr4 := Lib.hid hr4
        replace hb4 := Lib.hid hb4
        replace k4 := Lib.hid k4
        replace hxs4 := Lib.hid hxs4
        replace hl4 := Lib.hid hl4
        clear hb k0 hr
        go_wp2
        exact ⟨⟨j + 1, _, by omega, hl4.out, hxs4.out, by go_num, hb4.out, k4.out, hr4.out⟩, by simp [intOf]; omega⟩
    · obtain rfl : I = j := by omega
      have j1 : ¬ (I : Int) < (I : Int) := by omega
      go_wp2
      go_ret
      exact ⟨g, xs, rfl, hb, hBw.out, hr, hxl, hxs⟩
end Go.Proofs.YtgdokfchfgnbbaaGreat
