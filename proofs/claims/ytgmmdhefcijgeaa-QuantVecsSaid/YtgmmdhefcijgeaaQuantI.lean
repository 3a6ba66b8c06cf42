/-
  Any scale: a number's step, any numbers' steps.
-/
import Derived.Test.YtgmmdhefcijgeaaQuantH
import Derived.Laws.MakeOwn
import Derived.Laws.OwnMore
namespace Go.Proofs.Ytgmmdhefcijgeaa
open Go.RowKit Go.WideShapes Go.ChangeShapes Flow
set_option linter.unusedVariables false
set_option linter.unusedSimpArgs false
attribute [local go_sem] bits_run from_run

def stepR (v c : Int) : Value := .tuple #[.int .u32 v, .int .i64 c]
theorem whole_err {L S : Nat} {n c : Int} (x : Nat) (hc : c = 6 ∨ c = 28) (hch : ∀ w, Calls Try.prog 24 #[scv L S n] w fun e w' => e = .returned (.int .i64 c) ∧ Below w.heap.size w w') (w : World) :
    Calls Try.prog 10 #[scv L S n, .float .f64 x] w fun e w' => e = .returned (stepR 0 c) ∧ Below w.heap.size w w' := by
  replace hch := Lib.hid hch
  unfold stepR
  rcases hc with rfl | rfl
  · go_enter Try.func10, Try.ntmps10
    go_upto_region 1 with (fail)
    refine name_wp (fun w1 => Below w.heap.size w w1 ∧ w1.heap[w.heap.size]? = some (.cells #[.float .f64 L, .float .f64 S, .int .u32 n] 29 (0, 0))) ⟨(Below.refl _ _).alloc (Nat.le_refl _) _, alloc_at rfl⟩ ?_
    rintro w1 ⟨hb, kx⟩
    obtain ⟨c0, c1, c2⟩ := blkS kx
    go_wp2_with fail
    refine call_then (hch.out _) ?_
    clear c0 c1 c2
    intro w2 hb2
    replace hb := below_next hb hb.size hb2
    replace kx := keeps hb2 kx
    clear hb2
    obtain ⟨c0, c1, c2⟩ := blkS kx
    go_wp2
    exact bodyPost_ret (v := .tuple #[.int .u32 0, .int .i64 6]) (by simp [results, Try.results10, go_sem]) rfl ⟨rfl, hb⟩
  · go_enter Try.func10, Try.ntmps10
    go_upto_region 1 with (fail)
    refine name_wp (fun w1 => Below w.heap.size w w1 ∧ w1.heap[w.heap.size]? = some (.cells #[.float .f64 L, .float .f64 S, .int .u32 n] 29 (0, 0))) ⟨(Below.refl _ _).alloc (Nat.le_refl _) _, alloc_at rfl⟩ ?_
    rintro w1 ⟨hb, kx⟩
    obtain ⟨c0, c1, c2⟩ := blkS kx
    go_wp2_with fail
    refine call_then (hch.out _) ?_
    clear c0 c1 c2
    intro w2 hb2
    replace hb := below_next hb hb.size hb2
    replace kx := keeps hb2 kx
    clear hb2
    obtain ⟨c0, c1, c2⟩ := blkS kx
    go_wp2
    exact bodyPost_ret (v := .tuple #[.int .u32 0, .int .i64 28]) (by simp [results, Try.results10, go_sem]) rfl ⟨rfl, hb⟩
theorem rwhole_err {L S : Nat} {n c : Int} (x : Nat) (hc : c = 6 ∨ c = 28) (hch : ∀ w, Calls Try.prog 28 #[scv L S n] w fun e w' => e = .returned (.int .i64 c) ∧ Below w.heap.size w w') (w : World) :
    Calls Try.prog 16 #[scv L S n, .float .f64 x] w fun e w' => e = .returned (stepR 0 c) ∧ Below w.heap.size w w' := by
  replace hch := Lib.hid hch
  unfold stepR
  rcases hc with rfl | rfl
  · go_enter Try.func16, Try.ntmps16
    go_upto_region 1 with (fail)
    refine name_wp (fun w1 => Below w.heap.size w w1 ∧ w1.heap[w.heap.size]? = some (.cells #[.float .f64 L, .float .f64 S, .int .u32 n] 47 (0, 0))) ⟨(Below.refl _ _).alloc (Nat.le_refl _) _, alloc_at rfl⟩ ?_
    rintro w1 ⟨hb, kx⟩
    obtain ⟨c0, c1, c2⟩ := blkS kx
    go_wp2_with fail
    refine call_then (hch.out _) ?_
    clear c0 c1 c2
    intro w2 hb2
    replace hb := below_next hb hb.size hb2
    replace kx := keeps hb2 kx
    clear hb2
    obtain ⟨c0, c1, c2⟩ := blkS kx
    go_wp2
    exact bodyPost_ret (v := .tuple #[.int .u32 0, .int .i64 6]) (by simp [results, Try.results16, go_sem]) rfl ⟨rfl, hb⟩
  · go_enter Try.func16, Try.ntmps16
    go_upto_region 1 with (fail)
    refine name_wp (fun w1 => Below w.heap.size w w1 ∧ w1.heap[w.heap.size]? = some (.cells #[.float .f64 L, .float .f64 S, .int .u32 n] 47 (0, 0))) ⟨(Below.refl _ _).alloc (Nat.le_refl _) _, alloc_at rfl⟩ ?_
    rintro w1 ⟨hb, kx⟩
    obtain ⟨c0, c1, c2⟩ := blkS kx
    go_wp2_with fail
    refine call_then (hch.out _) ?_
    clear c0 c1 c2
    intro w2 hb2
    replace hb := below_next hb hb.size hb2
    replace kx := keeps hb2 kx
    clear hb2
    obtain ⟨c0, c1, c2⟩ := blkS kx
    go_wp2
    exact bodyPost_ret (v := .tuple #[.int .u32 0, .int .i64 28]) (by simp [results, Try.results16, go_sem]) rfl ⟨rfl, hb⟩
theorem whole_none {L S : Nat} {n : Int} {x : Nat} (hx : isNan x = true) (hch : ∀ w, Calls Try.prog 24 #[scv L S n] w fun e w' => e = .returned (.int .i64 0) ∧ Below w.heap.size w w') (w : World) :
    Calls Try.prog 10 #[scv L S n, .float .f64 x] w fun e w' => e = .returned (stepR 0 28) ∧ Below w.heap.size w w' := by
  have i1 := Lib.hid (isnan_is hx)
  replace hch := Lib.hid hch
  unfold stepR
  clear hx
  go_enter Try.func10, Try.ntmps10
  go_upto_region 1 with (fail)
  refine name_wp (fun w1 => Below w.heap.size w w1 ∧ w1.heap[w.heap.size]? = some (.cells #[.float .f64 L, .float .f64 S, .int .u32 n] 29 (0, 0))) ⟨(Below.refl _ _).alloc (Nat.le_refl _) _, alloc_at rfl⟩ ?_
  rintro w1 ⟨hb, kx⟩
  obtain ⟨c0, c1, c2⟩ := blkS kx
  go_wp2_with fail
  refine call_then (hch.out _) ?_
  clear c0 c1 c2
  intro w2 hb2
  replace hb := below_next hb hb.size hb2
  replace kx := keeps hb2 kx
  clear hb2
  obtain ⟨c0, c1, c2⟩ := blkS kx
  go_wp2_with fail
  refine call_then (i1.out _) ?_
  clear c0 c1 c2
  intro w2 hb2
  replace hb := below_next hb hb.size hb2
  replace kx := keeps hb2 kx
  clear hb2
  obtain ⟨c0, c1, c2⟩ := blkS kx
  go_wp2
  exact bodyPost_ret (v := .tuple #[.int .u32 0, .int .i64 28]) (by simp [results, Try.results10, go_sem]) rfl ⟨rfl, hb⟩
theorem rwhole_none {L S : Nat} {n : Int} {x : Nat} (hx : isNan x = true) (hch : ∀ w, Calls Try.prog 28 #[scv L S n] w fun e w' => e = .returned (.int .i64 0) ∧ Below w.heap.size w w') (w : World) :
    Calls Try.prog 16 #[scv L S n, .float .f64 x] w fun e w' => e = .returned (stepR 0 28) ∧ Below w.heap.size w w' := by
  have i1 := Lib.hid (none_is hx)
  replace hch := Lib.hid hch
  unfold stepR
  clear hx
  go_enter Try.func16, Try.ntmps16
  go_upto_region 1 with (fail)
  refine name_wp (fun w1 => Below w.heap.size w w1 ∧ w1.heap[w.heap.size]? = some (.cells #[.float .f64 L, .float .f64 S, .int .u32 n] 47 (0, 0))) ⟨(Below.refl _ _).alloc (Nat.le_refl _) _, alloc_at rfl⟩ ?_
  rintro w1 ⟨hb, kx⟩
  obtain ⟨c0, c1, c2⟩ := blkS kx
  go_wp2_with fail
  refine call_then (hch.out _) ?_
  clear c0 c1 c2
  intro w2 hb2
  replace hb := below_next hb hb.size hb2
  replace kx := keeps hb2 kx
  clear hb2
  obtain ⟨c0, c1, c2⟩ := blkS kx
  go_wp2_with fail
  refine call_then (i1.out _) ?_
  clear c0 c1 c2
  intro w2 hb2
  replace hb := below_next hb hb.size hb2
  replace kx := keeps hb2 kx
  clear hb2
  obtain ⟨c0, c1, c2⟩ := blkS kx
  go_wp2
  exact bodyPost_ret (v := .tuple #[.int .u32 0, .int .i64 28]) (by simp [results, Try.results16, go_sem]) rfl ⟨rfl, hb⟩
set_option maxHeartbeats 40000000 in
theorem rwhole_any {L S : Nat} {n m : Int} {x d q : Nat} (hch : ∀ w, Calls Try.prog 28 #[scv L S n] w fun e w' => e = .returned (.int .i64 0) ∧ Below w.heap.size w w') (hx : isNan x = false)
    (h1 : subF x L = some d) (h2 : quoF d S = some q) (hf : RefFalls q (floatOfInt .f64 n) n m) (w : World) :
    Calls Try.prog 16 #[scv L S n, .float .f64 x] w fun e w' => e = .returned (stepR m 0) ∧ Below w.heap.size w w' := by
  have i1 := Lib.hid (none_is hx)
  have m1 := run_dif h1
  have m2 := run_quo h2
  replace hch := Lib.hid hch
  unfold stepR
  clear hx h1 h2
  rcases hf with ⟨f1, rfl⟩ | ⟨f1, f2, rfl⟩ | ⟨f1, f2, dn, rs, d0, d1, f3, f4, f5⟩
  · have o1 : (FloatKind.f64.format.order q 0 == some .gt) = false := beq_eq_false_iff_ne.2 f1
    clear f1
    go_enter Try.func16, Try.ntmps16
    go_upto_region 1 with (fail)
    refine name_wp (fun w1 => Below w.heap.size w w1 ∧ w1.heap[w.heap.size]? = some (.cells #[.float .f64 L, .float .f64 S, .int .u32 n] 47 (0, 0))) ⟨(Below.refl _ _).alloc (Nat.le_refl _) _, alloc_at rfl⟩ ?_
    rintro w1 ⟨hb, kx⟩
    obtain ⟨c0, c1, c2⟩ := blkS kx
    go_wp2_with fail
    refine call_then (hch.out _) ?_
    clear c0 c1 c2
    intro w2 hb2
    replace hb := below_next hb hb.size hb2
    replace kx := keeps hb2 kx
    clear hb2
    obtain ⟨c0, c1, c2⟩ := blkS kx
    go_wp2_with fail
    refine call_then (i1.out _) ?_
    clear c0 c1 c2
    intro w2 hb2
    replace hb := below_next hb hb.size hb2
    replace kx := keeps hb2 kx
    clear hb2
    obtain ⟨c0, c1, c2⟩ := blkS kx
    go_wp2
    exact bodyPost_ret (v := .tuple #[.int .u32 0, .int .i64 0]) (by simp [results, Try.results16, go_sem]) rfl ⟨rfl, hb⟩
  · have o1 : (FloatKind.f64.format.order q 0 == some .gt) = true := beq_iff_eq.2 f1
    have o2 : (FloatKind.f64.format.order q (floatOfInt .f64 m) == some .gt || FloatKind.f64.format.order q (floatOfInt .f64 m) == some .eq) = true := f2
    clear f1 f2
    go_enter Try.func16, Try.ntmps16
    go_upto_region 1 with (fail)
    refine name_wp (fun w1 => Below w.heap.size w w1 ∧ w1.heap[w.heap.size]? = some (.cells #[.float .f64 L, .float .f64 S, .int .u32 m] 47 (0, 0))) ⟨(Below.refl _ _).alloc (Nat.le_refl _) _, alloc_at rfl⟩ ?_
    rintro w1 ⟨hb, kx⟩
    obtain ⟨c0, c1, c2⟩ := blkS kx
    go_wp2_with fail
    refine call_then (hch.out _) ?_
    clear c0 c1 c2
    intro w2 hb2
    replace hb := below_next hb hb.size hb2
    replace kx := keeps hb2 kx
    clear hb2
    obtain ⟨c0, c1, c2⟩ := blkS kx
    go_wp2_with fail
    refine call_then (i1.out _) ?_
    clear c0 c1 c2
    intro w2 hb2
    replace hb := below_next hb hb.size hb2
    replace kx := keeps hb2 kx
    clear hb2
    obtain ⟨c0, c1, c2⟩ := blkS kx
    go_wp2
    exact bodyPost_ret (v := .tuple #[.int .u32 m, .int .i64 0]) (by simp [results, Try.results16, go_sem]) rfl ⟨rfl, hb⟩
  · have o1 : (FloatKind.f64.format.order q 0 == some .gt) = true := beq_iff_eq.2 f1
    have o2 : (FloatKind.f64.format.order q (floatOfInt .f64 n) == some .gt || FloatKind.f64.format.order q (floatOfInt .f64 n) == some .eq) = false := f2
    have cv := fun w => run_convert_float_int (P := Try.prog) w 27 25 .f64 .u32 q dn (by rw [Try.underlying27]; rfl) Try.underlying25 f3
    have m3 := run_dif f4
    clear f1 f2 f3 f4
    rcases f5 with ⟨g, rfl⟩ | ⟨g, g2, rfl⟩ | ⟨g, g2, rfl⟩ | ⟨g, rfl⟩
    · have o3 : (FloatKind.f64.format.order rs 4602678819172646912 == some .gt) = true := beq_iff_eq.2 g
      clear g
      go_enter Try.func16, Try.ntmps16
      go_upto_region 1 with (fail)
      refine name_wp (fun w1 => Below w.heap.size w w1 ∧ w1.heap[w.heap.size]? = some (.cells #[.float .f64 L, .float .f64 S, .int .u32 n] 47 (0, 0))) ⟨(Below.refl _ _).alloc (Nat.le_refl _) _, alloc_at rfl⟩ ?_
      rintro w1 ⟨hb, kx⟩
      obtain ⟨c0, c1, c2⟩ := blkS kx
      go_wp2_with fail
      refine call_then (hch.out _) ?_
      clear c0 c1 c2
      intro w2 hb2
      replace hb := below_next hb hb.size hb2
      replace kx := keeps hb2 kx
      clear hb2
      obtain ⟨c0, c1, c2⟩ := blkS kx
      go_wp2_with fail
      refine call_then (i1.out _) ?_
      clear c0 c1 c2
      intro w2 hb2
      replace hb := below_next hb hb.size hb2
      replace kx := keeps hb2 kx
      clear hb2
      obtain ⟨c0, c1, c2⟩ := blkS kx
      go_wp2
      exact bodyPost_ret (v := .tuple #[.int .u32 (dn + 1), .int .i64 0]) (by simp [results, Try.results16, go_sem]) rfl ⟨rfl, hb⟩
    · have o3 : (FloatKind.f64.format.order rs 4602678819172646912 == some .gt) = false := by
        show (od rs _ == _) = false
        rw [g]; rfl
      have o4 : (FloatKind.f64.format.order rs 4602678819172646912 == some .eq) = true := beq_iff_eq.2 g
      clear g
      go_enter Try.func16, Try.ntmps16
      go_upto_region 1 with (fail)
      refine name_wp (fun w1 => Below w.heap.size w w1 ∧ w1.heap[w.heap.size]? = some (.cells #[.float .f64 L, .float .f64 S, .int .u32 n] 47 (0, 0))) ⟨(Below.refl _ _).alloc (Nat.le_refl _) _, alloc_at rfl⟩ ?_
      rintro w1 ⟨hb, kx⟩
      obtain ⟨c0, c1, c2⟩ := blkS kx
      go_wp2_with fail
      refine call_then (hch.out _) ?_
      clear c0 c1 c2
      intro w2 hb2
      replace hb := below_next hb hb.size hb2
      replace kx := keeps hb2 kx
      clear hb2
      obtain ⟨c0, c1, c2⟩ := blkS kx
      go_wp2_with fail
      refine call_then (i1.out _) ?_
      clear c0 c1 c2
      intro w2 hb2
      replace hb := below_next hb hb.size hb2
      replace kx := keeps hb2 kx
      clear hb2
      obtain ⟨c0, c1, c2⟩ := blkS kx
      go_wp2
      exact bodyPost_ret (v := .tuple #[.int .u32 (dn + 1), .int .i64 0]) (by simp [results, Try.results16, go_sem]) rfl ⟨rfl, hb⟩
    · have o3 : (FloatKind.f64.format.order rs 4602678819172646912 == some .gt) = false := by
        show (od rs _ == _) = false
        rw [g]; rfl
      have o4 : (FloatKind.f64.format.order rs 4602678819172646912 == some .eq) = true := beq_iff_eq.2 g
      clear g
      go_enter Try.func16, Try.ntmps16
      go_upto_region 1 with (fail)
      refine name_wp (fun w1 => Below w.heap.size w w1 ∧ w1.heap[w.heap.size]? = some (.cells #[.float .f64 L, .float .f64 S, .int .u32 n] 47 (0, 0))) ⟨(Below.refl _ _).alloc (Nat.le_refl _) _, alloc_at rfl⟩ ?_
      rintro w1 ⟨hb, kx⟩
      obtain ⟨c0, c1, c2⟩ := blkS kx
      go_wp2_with fail
      refine call_then (hch.out _) ?_
      clear c0 c1 c2
      intro w2 hb2
      replace hb := below_next hb hb.size hb2
      replace kx := keeps hb2 kx
      clear hb2
      obtain ⟨c0, c1, c2⟩ := blkS kx
      go_wp2_with fail
      refine call_then (i1.out _) ?_
      clear c0 c1 c2
      intro w2 hb2
      replace hb := below_next hb hb.size hb2
      replace kx := keeps hb2 kx
      clear hb2
      obtain ⟨c0, c1, c2⟩ := blkS kx
      go_wp2
      exact bodyPost_ret (v := .tuple #[.int .u32 m, .int .i64 0]) (by simp [results, Try.results16, go_sem]) rfl ⟨rfl, hb⟩
    · have o3 : (FloatKind.f64.format.order rs 4602678819172646912 == some .gt) = false := by
        show (od rs _ == _) = false
        rw [g]; rfl
      have o4 : (FloatKind.f64.format.order rs 4602678819172646912 == some .eq) = false := by
        show (od rs _ == _) = false
        rw [g]; rfl
      clear g
      go_enter Try.func16, Try.ntmps16
      go_upto_region 1 with (fail)
      refine name_wp (fun w1 => Below w.heap.size w w1 ∧ w1.heap[w.heap.size]? = some (.cells #[.float .f64 L, .float .f64 S, .int .u32 n] 47 (0, 0))) ⟨(Below.refl _ _).alloc (Nat.le_refl _) _, alloc_at rfl⟩ ?_
      rintro w1 ⟨hb, kx⟩
      obtain ⟨c0, c1, c2⟩ := blkS kx
      go_wp2_with fail
      refine call_then (hch.out _) ?_
      clear c0 c1 c2
      intro w2 hb2
      replace hb := below_next hb hb.size hb2
      replace kx := keeps hb2 kx
      clear hb2
      obtain ⟨c0, c1, c2⟩ := blkS kx
      go_wp2_with fail
      refine call_then (i1.out _) ?_
      clear c0 c1 c2
      intro w2 hb2
      replace hb := below_next hb hb.size hb2
      replace kx := keeps hb2 kx
      clear hb2
      obtain ⟨c0, c1, c2⟩ := blkS kx
      go_wp2
      exact bodyPost_ret (v := .tuple #[.int .u32 m, .int .i64 0]) (by simp [results, Try.results16, go_sem]) rfl ⟨rfl, hb⟩
/-- A number's step, and its error: both answers. -/
structure StepIs (L S : Nat) (n : Int) (x : Nat) (v e : Int) : Prop where
  prog : ∀ w, Calls Try.prog 10 #[scv L S n, .float .f64 x] w fun e' w' => e' = .returned (stepR v e) ∧ Below w.heap.size w w'
  ref : ∀ w, Calls Try.prog 16 #[scv L S n, .float .f64 x] w fun e' w' => e' = .returned (stepR v e) ∧ Below w.heap.size w w'
  err : e = 0 ∨ e = 6 ∨ e = 28
theorem step_is (L S : Nat) (n : Int) (hl : L < 18446744073709551616) (hs : S < 18446744073709551616) (hn : 0 ≤ n ∧ n < 4294967296) : ∃ V E : Nat → Int, ∀ x, StepIs L S n x (V x) (E x) := by
  obtain ⟨c, hq, hr, hc, h0⟩ := check_gen L S n hl hs hn
  have key : ∀ x, ∃ p : Int × Int, StepIs L S n x p.1 p.2 := fun x => by
    rcases hc with rfl | hc
    · obtain ⟨fL, fS, hS0, n1, n2⟩ := h0 rfl
      cases hx : isNan x with
      | true => exact ⟨(0, 28), ⟨whole_none hx hq, rwhole_none hx hr, .inr (.inr rfl)⟩⟩
      | false =>
        obtain ⟨d, h1, w1⟩ := sub_some (whl_of hx) fL
        obtain ⟨q, h2, w2⟩ := quo_some w1 fS hS0
        obtain ⟨nN, rfl⟩ := Int.eq_ofNat_of_zero_le hn.1
        obtain ⟨r, m, h3, h4, h5, _⟩ := falls_gen w2 (n := nN) (by omega)
        exact ⟨((m : Int), 0), ⟨fun w => whole_any hq hx h1 h2 h3 h4 w, rwhole_any hr hx h1 h2 h5, .inl rfl⟩⟩
    · exact ⟨(0, c), ⟨whole_err x hc hq, rwhole_err x hc hr, .inr hc⟩⟩
  exact ⟨fun x => (Classical.choose (key x)).1, fun x => (Classical.choose (key x)).2, fun x => Classical.choose_spec (key x)⟩
end Go.Proofs.Ytgmmdhefcijgeaa
