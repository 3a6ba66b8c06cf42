/-
  The document's circuits: how many elements a vector has, how often the gadget is called.
-/
import Derived.Test.YtgdokfchfgnbbaaCiC
namespace Go.Proofs.Ytgdokfchfgnbbaa
open Go.RowKit Flow
set_option linter.unusedVariables false
set_option linter.unusedSimpArgs false

theorem rin_any (k f b l W c : Int) (h : (Ci.mk k f b l W c).Fits) (w : World) : Calls Try.prog 16 #[.agg #[.int .i64 k, .int .i64 f, .int .i64 b, .int .i64 l, .int .i64 W, .int .i64 c]] w fun e w' => e = .returned (.int .i64 ((Ci.mk k f b l W c).inN : Int)) ∧ Below w.heap.size w w' := by
  have hk : k = 1 ∨ k = 2 ∨ k = 3 ∨ k = 4 ∨ k = 5 := by have := h.k1; have := h.k5; simp only at *; omega
  rcases hk with rfl | rfl | rfl | rfl | rfl
  · have hN : ((Ci.mk 1 f b l W c).inN : Int) = 1 := by simp [Ci.inN]
    rw [hN]
    clear hN h
    go_enter Try.func16, Try.ntmps16
    go_upto_region 1 with (fail)
    refine name_wp (fun w1 => Below w.heap.size w w1 ∧ w1.heap[w.heap.size]? = some (.cells #[.int .i64 1, .int .i64 f, .int .i64 b, .int .i64 l, .int .i64 W, .int .i64 c] 32 (0, 0))) ⟨(Below.refl _ _).alloc (Nat.le_refl _) _, alloc_at rfl⟩ ?_
    rintro w1 ⟨hb, k0⟩
    obtain ⟨c0, c1, c2, c3, c4, c5⟩ := blk6 k0
    go_wp2
    go_ret
    exact ⟨rfl, hb⟩
  · have hb2 := h.b (.inl rfl)
    have hN : ((Ci.mk 2 f b l W c).inN : Int) = b := by simp only [Ci.inN] at *; simp; omega
    rw [hN]
    clear hN h
    go_enter Try.func16, Try.ntmps16
    go_upto_region 1 with (fail)
    refine name_wp (fun w1 => Below w.heap.size w w1 ∧ w1.heap[w.heap.size]? = some (.cells #[.int .i64 2, .int .i64 f, .int .i64 b, .int .i64 l, .int .i64 W, .int .i64 c] 32 (0, 0))) ⟨(Below.refl _ _).alloc (Nat.le_refl _) _, alloc_at rfl⟩ ?_
    rintro w1 ⟨hb, k0⟩
    obtain ⟨c0, c1, c2, c3, c4, c5⟩ := blk6 k0
    go_wp2
    go_ret
    exact ⟨rfl, hb⟩
  · have hb2 := h.b (.inr rfl)
    have hl2 := h.l (by simp)
    simp only at hb2 hl2
    obtain ⟨nb, rfl⟩ := Int.eq_ofNat_of_zero_le (show 0 ≤ b by omega)
    obtain ⟨nl, rfl⟩ := Int.eq_ofNat_of_zero_le (show 0 ≤ l by omega)
    have hN : ((Ci.mk 3 f nb nl W c).inN : Int) = ((nb * nl : Nat) : Int) := by simp [Ci.inN]
    have hm : nb * nl ≤ 32 * 64 := Nat.mul_le_mul (by omega) (by omega)
    obtain ⟨P, hP⟩ : ∃ P, nb * nl = P := ⟨_, rfl⟩
    have zP : IntKind.i64.wrap ((nb : Int) * (nl : Int)) = (P : Int) := wrap_i (by rw [← hP, Int.natCast_mul]) (by omega)
    rw [hN, hP]
    replace hP := Lib.hid hP
    clear hN h
    go_enter Try.func16, Try.ntmps16
    go_upto_region 1 with (fail)
    refine name_wp (fun w1 => Below w.heap.size w w1 ∧ w1.heap[w.heap.size]? = some (.cells #[.int .i64 3, .int .i64 f, .int .i64 (nb : Int), .int .i64 (nl : Int), .int .i64 W, .int .i64 c] 32 (0, 0))) ⟨(Below.refl _ _).alloc (Nat.le_refl _) _, alloc_at rfl⟩ ?_
    rintro w1 ⟨hb, k0⟩
    obtain ⟨c0, c1, c2, c3, c4, c5⟩ := blk6 k0
    go_wp2
    go_ret
    exact ⟨rfl, hb⟩
  · have hl2 := h.l (by simp)
    have hN : ((Ci.mk 4 f b l W c).inN : Int) = l := by simp only [Ci.inN] at *; simp; omega
    rw [hN]
    clear hN h
    go_enter Try.func16, Try.ntmps16
    go_upto_region 1 with (fail)
    refine name_wp (fun w1 => Below w.heap.size w w1 ∧ w1.heap[w.heap.size]? = some (.cells #[.int .i64 4, .int .i64 f, .int .i64 b, .int .i64 l, .int .i64 W, .int .i64 c] 32 (0, 0))) ⟨(Below.refl _ _).alloc (Nat.le_refl _) _, alloc_at rfl⟩ ?_
    rintro w1 ⟨hb, k0⟩
    obtain ⟨c0, c1, c2, c3, c4, c5⟩ := blk6 k0
    go_wp2
    go_ret
    exact ⟨rfl, hb⟩
  · have hl2 := h.l (by simp)
    have hw2 := h.w rfl
    simp only at hl2 hw2
    have hN : ((Ci.mk 5 f b l W c).inN : Int) = l + (Lib.bitLen W.toNat : Int) := by simp only [Ci.inN] at *; simp; omega
    have hB := bitLen_le W.toNat (by omega)
    have hwb := fun w => rwb_any 5 f b l W c (by omega) (by omega) w
    rw [hN]
    generalize Lib.bitLen W.toNat = B at *
    replace hwb := Lib.hid hwb
    clear hN h
    go_enter Try.func16, Try.ntmps16
    go_upto_region 1 with (fail)
    refine name_wp (fun w1 => Below w.heap.size w w1 ∧ w1.heap[w.heap.size]? = some (.cells #[.int .i64 5, .int .i64 f, .int .i64 b, .int .i64 l, .int .i64 W, .int .i64 c] 32 (0, 0))) ⟨(Below.refl _ _).alloc (Nat.le_refl _) _, alloc_at rfl⟩ ?_
    rintro w1 ⟨hb, k0⟩
    obtain ⟨c0, c1, c2, c3, c4, c5⟩ := blk6 k0
    go_upto_region 10 with (fail)
    refine wp_region_flow0 (by kernel_rfl) (by kernel_rfl) ?_
    intro ι _ φ hφ
    have q := fun i => blk6 (keeps (hφ.old i) k0)
    have q0 := fun i => (q i).1
    have q1 := fun i => (q i).2.1
    have q2 := fun i => (q i).2.2.1
    have q3 := fun i => (q i).2.2.2.1
    have q4 := fun i => (q i).2.2.2.2.1
    have q5 := fun i => (q i).2.2.2.2.2
    clear q
    repeat (go_big_quiet_step ((first
      | (go_at_call 62; exact flow_call hφ (hwb.out _)))))
    refine wpQuiet_nil ?_
    intro w2 hw2
    clear q0 q1 q2 q3 q4 q5 hφ c0 c1 c2 c3 c4 c5
    go_wp2
    go_ret
    exact ⟨rfl, below_next hb hb.size hw2⟩
theorem rcalls_any (k f b l W c : Int) (h : (Ci.mk k f b l W c).Fits) (w : World) : Calls Try.prog 20 #[.agg #[.int .i64 k, .int .i64 f, .int .i64 b, .int .i64 l, .int .i64 W, .int .i64 c]] w fun e w' => e = .returned (.int .i64 ((Ci.mk k f b l W c).callsN : Int)) ∧ Below w.heap.size w w' := by
  have hk : k = 1 ∨ k = 2 ∨ 3 ≤ k := by have := h.k1; have := h.k5; simp only at *; omega
  rcases hk with rfl | rfl | h3
  · have hN : ((Ci.mk 1 f b l W c).callsN : Int) = 1 := by simp [Ci.callsN]
    rw [hN]
    clear hN h
    go_enter Try.func20, Try.ntmps20
    go_upto_region 1 with (fail)
    refine name_wp (fun w1 => Below w.heap.size w w1 ∧ w1.heap[w.heap.size]? = some (.cells #[.int .i64 1, .int .i64 f, .int .i64 b, .int .i64 l, .int .i64 W, .int .i64 c] 32 (0, 0))) ⟨(Below.refl _ _).alloc (Nat.le_refl _) _, alloc_at rfl⟩ ?_
    rintro w1 ⟨hb, k0⟩
    obtain ⟨c0, c1, c2, c3, c4, c5⟩ := blk6 k0
    go_wp2
    go_ret
    exact ⟨rfl, hb⟩
  · have hb2 := h.b (.inl rfl)
    have hN : ((Ci.mk 2 f b l W c).callsN : Int) = b := by simp only [Ci.callsN] at *; simp; omega
    rw [hN]
    clear hN h
    go_enter Try.func20, Try.ntmps20
    go_upto_region 1 with (fail)
    refine name_wp (fun w1 => Below w.heap.size w w1 ∧ w1.heap[w.heap.size]? = some (.cells #[.int .i64 2, .int .i64 f, .int .i64 b, .int .i64 l, .int .i64 W, .int .i64 c] 32 (0, 0))) ⟨(Below.refl _ _).alloc (Nat.le_refl _) _, alloc_at rfl⟩ ?_
    rintro w1 ⟨hb, k0⟩
    obtain ⟨c0, c1, c2, c3, c4, c5⟩ := blk6 k0
    go_wp2
    go_ret
    exact ⟨rfl, hb⟩
  · have hin := fun w => rin_any k f b l W c h w
    have hle := h.in_le
    have hc := h.c h3
    have hk5 := h.k5
    simp only at hc hk5
    have n1 : k ≠ 1 := by omega
    have n2 : k ≠ 2 := by omega
    have e1 : (k == 1) = false := by simpa using n1
    have e2 : (k == 2) = false := by simpa using n2
    obtain ⟨nc, hnc⟩ := Int.eq_ofNat_of_zero_le (show 0 ≤ c by omega)
    have nc0 : 0 < nc := by omega
    have nc16 : nc ≤ 16 := by omega
    have hN : (Ci.mk k f b l W c).callsN = pieces (Ci.mk k f b l W c).inN nc := by
      unfold Ci.callsN
      rw [if_neg (show ¬ k = 1 by omega), if_neg (show ¬ k = 2 by omega)]
      simp [hnc]
    rw [hN]
    generalize (Ci.mk k f b l W c).inN = I at *
    have hPl := pieces_le I nc0
    have hpl := fun j => pieces_lt I j nc0
    obtain ⟨T, hT⟩ : ∃ T, pieces I nc = T := ⟨_, rfl⟩
    rw [hT] at hPl hpl ⊢
    replace hin := Lib.hid hin
    replace hpl := Lib.hid hpl
    clear hN h hT
    subst hnc
    go_enter Try.func20, Try.ntmps20
    go_upto_region 1 with (fail)
    refine name_wp (fun w1 => Below w.heap.size w w1 ∧ w1.heap[w.heap.size]? = some (.cells #[.int .i64 k, .int .i64 f, .int .i64 b, .int .i64 l, .int .i64 W, .int .i64 (nc : Int)] 32 (0, 0))) ⟨(Below.refl _ _).alloc (Nat.le_refl _) _, alloc_at rfl⟩ ?_
    rintro w1 ⟨hb, k0⟩
    obtain ⟨c0, c1, c2, c3, c4, c5⟩ := blk6 k0
    go_wp2
    clear c0 c1 c2 c3 c4 c5
    go_loopw [3, 4] (fun i v wr => ∃ j a : Nat, i = .int .i64 (j : Int) ∧ v = .int .i64 (a : Int) ∧ Hid (a = j * nc) ∧ j ≤ T ∧ Below w.heap.size w wr ∧ wr.heap[w.heap.size]? = some (.cells #[.int .i64 k, .int .i64 f, .int .i64 b, .int .i64 l, .int .i64 W, .int .i64 (nc : Int)] 32 (0, 0))) (fun i _ _ => T - (intOf i).toNat)
    case atStart => exact ⟨0, 0, rfl, rfl, Lib.hid (by simp), Nat.zero_le _, hb, k0⟩
    case round =>
      clear hb k0
      obtain ⟨j, a, rfl, rfl, ha, hj, hb, k0⟩ := hrel
      obtain ⟨c0, c1, c2, c3, c4, c5⟩ := blk6 k0
      have hjT := hpl.out j
      rw [← ha.out] at hjT
      go_wp2_with fail
      refine call_then (hin.out _) ?_
      intro w2 hb2
      replace hb := below_next hb hb.size hb2
      replace k0 := keeps hb2 k0
      clear hb2 c0 c1 c2 c3 c4 c5
      obtain ⟨c0, c1, c2, c3, c4, c5⟩ := blk6 k0
      by_cases hlt : j < T
      · have haI := hjT.2 hlt
        have b1 : decide ((a : Int) < (I : Int)) = true := by rw [decide_eq_true_eq]; omega
        have ha2 : a + nc = (j + 1) * nc := by rw [Nat.succ_mul, ha.out]
        replace ha2 := Lib.hid ha2
        clear hjT
        go_wp2
        exact ⟨⟨j + 1, a + nc, by go_num, by go_num, ha2, hlt, hb, k0⟩, by simp [intOf]; omega⟩
      · obtain rfl : j = T := by omega
        have haI : ¬ a < I := fun h => hlt (hjT.1 h)
        have b1 : decide ((a : Int) < (I : Int)) = false := by rw [decide_eq_false_iff_not]; omega
        clear hjT
        go_wp2
        go_ret
        exact ⟨rfl, hb⟩
end Go.Proofs.Ytgdokfchfgnbbaa
