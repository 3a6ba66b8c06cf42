/-
  Any scale: whether it may be one; a number's step: the program's and the document's answer.
-/
import Derived.Test.YtgmmdhefcijgeaaQuantG
namespace Go.Proofs.Ytgmmdhefcijgeaa
open Go.RowKit Go.WideShapes Go.ChangeShapes Flow
set_option linter.unusedVariables false
set_option linter.unusedSimpArgs false
attribute [local go_sem] bits_run from_run

theorem isnan_is {x : Nat} {b : Bool} (h : isNan x = b) (w : World) : Calls Try.prog 26 #[.float .f64 x] w fun e w' => e = .returned (.bool b) ∧ Below w.heap.size w w' := by
  subst h; exact isnan_any x w
theorem none_is {x : Nat} {b : Bool} (h : isNan x = b) (w : World) : Calls Try.prog 29 #[.float .f64 x] w fun e w' => e = .returned (.bool b) ∧ Below w.heap.size w w' := by
  have e : (FloatKind.f64.format.order x x != some .eq) = b := h
  go_enter Try.func29, Try.ntmps29
  go_wp2
  go_ret
  exact ⟨rfl, Below.refl _ _⟩
theorem max_fin : fin 9218868437227405311 := by unfold Go.Proofs.Ytgmmdhefcijgeaa.fin; decide
theorem min_fin : fin 18442240474082181119 := by unfold Go.Proofs.Ytgmmdhefcijgeaa.fin; decide
theorem max_read : Ieee.double.read 9218868437227405311 = .number false 9007199254740991 971 := by decide +kernel
theorem min_read : Ieee.double.read 18442240474082181119 = .number true 9007199254740991 971 := by decide +kernel
theorem beyond_cmp {x M m : Nat} (h : fin x) (hM : fin M) (hm : fin m) (h1 : sg M = false) (h2 : sg m = true) (h3 : rg x ≤ rg M) (h4 : rg x ≤ rg m) : od x M ≠ some .gt ∧ od x m ≠ some .lt := by
  have a := kv_abs x
  have v1 := rv_le h3
  have v2 := rv_le h4
  constructor
  · intro e
    have := (gt_fin h hM).1 e
    rw [kv_plain h1] at this
    omega
  · intro e
    have := (lt_fin h hm).1 e
    unfold kv at this
    rw [h2] at this
    simp only [if_true] at this
    have a' : (kv x).natAbs = rv (rg x) := a
    unfold kv at a'
    omega
theorem beyond_fin {x : Nat} (h : fin x) (w : World) : Calls Try.prog 32 #[.float .f64 x] w fun e w' => e = .returned (.bool false) ∧ Below w.heap.size w w' := by
  obtain ⟨e1, e2⟩ := beyond_cmp h max_fin min_fin (by decide) (by decide) (by unfold Go.Proofs.Ytgmmdhefcijgeaa.fin rg at *; omega) (by unfold Go.Proofs.Ytgmmdhefcijgeaa.fin rg at *; omega)
  have o1 : (FloatKind.f64.format.order x 9218868437227405311 == some .gt) = false := beq_eq_false_iff_ne.2 e1
  have o2 : (FloatKind.f64.format.order x 18442240474082181119 == some .lt) = false := beq_eq_false_iff_ne.2 e2
  clear e1 e2
  go_enter Try.func32, Try.ntmps32
  go_wp2
  go_ret
  exact ⟨rfl, Below.refl _ _⟩
theorem beyond_inf {x : Nat} (h : Ieee.double.read x = .infinity (sg x)) (w : World) : Calls Try.prog 32 #[.float .f64 x] w fun e w' => e = .returned (.bool true) ∧ Below w.heap.size w w' := by
  cases hs : sg x with
  | false =>
    rw [hs] at h
    have o1 : (FloatKind.f64.format.order x 9218868437227405311 == some .gt) = true := by
      show ((Ieee.double.read x).order (Ieee.double.read _) == some .gt) = true
      rw [h, max_read]; rfl
    go_enter Try.func32, Try.ntmps32
    go_wp2
    go_ret
    exact ⟨rfl, Below.refl _ _⟩
  | true =>
    rw [hs] at h
    have o1 : (FloatKind.f64.format.order x 9218868437227405311 == some .gt) = false := by
      show ((Ieee.double.read x).order (Ieee.double.read _) == some .gt) = false
      rw [h, max_read]; rfl
    have o2 : (FloatKind.f64.format.order x 18442240474082181119 == some .lt) = true := by
      show ((Ieee.double.read x).order (Ieee.double.read _) == some .lt) = true
      rw [h, min_read]; rfl
    go_enter Try.func32, Try.ntmps32
    go_wp2
    go_ret
    exact ⟨rfl, Below.refl _ _⟩
theorem rg_of_inf {x : Nat} {s : Bool} (h : Ieee.double.read x = .infinity s) : rg x = 9218868437227405312 := by
  rcases Nat.lt_trichotomy (rg x) 9218868437227405312 with h1 | h1 | h1
  · rw [read_finite x h1] at h; cases h
  · exact h1
  · obtain ⟨a, b, e⟩ := read_nan x h1
    rw [e] at h; cases h
theorem finite_inf {x : Nat} (h : Ieee.double.read x = .infinity (sg x)) (hl : x < 18446744073709551616) (w : World) : Calls Try.prog 31 #[.float .f64 x] w fun e w' => e = .returned (.bool false) ∧ Below w.heap.size w w' := by
  have hn := isnan_is (whl_num (Nat.le_of_eq (rg_of_inf h)))
  have hI : ∀ w, Calls Try.prog 34 #[.float .f64 x, .int .i64 0] w fun e w' => e = .returned (.bool true) ∧ Below w.heap.size w w' := fun w => by
    have h2 := abs_any x hl
    rw [show x % 9223372036854775808 = 9218868437227405312 from rg_of_inf h] at h2
    have o : (FloatKind.f64.format.order 9218868437227405312 9218868437227405311 == some .gt) = true := by decide +kernel
    replace h2 := Lib.hid h2
    go_enter Try.func34, Try.ntmps34
    go_wp2_with fail
    refine call_then (h2.out _) ?_
    intro w2 hb
    go_wp2
    go_ret
    exact ⟨rfl, hb⟩
  replace hn := Lib.hid hn
  replace hI := Lib.hid hI
  go_enter Try.func31, Try.ntmps31
  go_wp2_with fail
  refine call_then (hn.out _) ?_
  intro w2 hb
  go_wp2_with fail
  refine call_then (hI.out _) ?_
  intro w3 hb3
  replace hb := below_next hb hb.size hb3
  go_wp2
  go_ret
  exact ⟨rfl, hb⟩
theorem line_gen {L S K v t : Nat} (hL : fin L) (hl : L < 18446744073709551616) (hv : mulF S K = some v) (ht : addF L v = some t) (w : World) :
    Calls Try.prog 25 #[.float .f64 L, .float .f64 4607182418800017408, .float .f64 S, .float .f64 K] w fun e w' => e = .returned (.float .f64 (unsig t)) ∧ Below w.heap.size w w' := by
  have m1 := run_mul (mul_one hL hl)
  have m2 := run_mul hv
  have m3 := run_add ht
  have h := unsigned_any t
  replace h := Lib.hid h
  clear hL hl hv ht
  go_enter Try.func25, Try.ntmps25
  go_wp2_with fail
  refine call_then (h.out _) ?_
  intro w2 hb
  go_wp2
  go_ret
  exact ⟨rfl, hb⟩
theorem high_gen {L S v t : Nat} {n : Int} (hL : fin L) (hl : L < 18446744073709551616) (hv : mulF S (floatOfInt .f64 n) = some v) (ht : addF L v = some t) (w : World) :
    Calls Try.prog 12 #[scv L S n] w fun e w' => e = .returned (.float .f64 (unsig t)) ∧ Below w.heap.size w w' := by
  have hc := line_gen hL hl hv ht
  replace hc := Lib.hid hc
  clear hL hl hv ht
  go_enter Try.func12, Try.ntmps12
  go_wp2_with fail
  refine call_then (hc.out _) ?_
  intro w2 hb
  replace hb := below_next ((Below.refl w.heap.size w).alloc (Nat.le_refl _) _) (by simp) hb
  go_wp2
  go_ret
  exact ⟨rfl, hb⟩
theorem rhigh_gen {L S v t : Nat} {n : Int} (hv : mulF S (floatOfInt .f64 n) = some v) (ht : addF L v = some t) (w : World) :
    Calls Try.prog 33 #[scv L S n] w fun e w' => e = .returned (.float .f64 t) ∧ Below w.heap.size w w' := by
  have m2 := run_mul hv
  have m3 := run_add ht
  clear hv ht
  go_enter Try.func33, Try.ntmps33
  go_wp2
  go_ret
  exact ⟨rfl, (Below.refl w.heap.size w).alloc (Nat.le_refl _) _⟩
set_option maxHeartbeats 40000000 in
/-- What is said of any scale. -/
theorem check_gen (L S : Nat) (n : Int) (hl : L < 18446744073709551616) (hs : S < 18446744073709551616) (hn : 0 ≤ n ∧ n < 4294967296) :
    ∃ c : Int, (∀ w, Calls Try.prog 24 #[scv L S n] w fun e w' => e = .returned (.int .i64 c) ∧ Below w.heap.size w w') ∧ (∀ w, Calls Try.prog 28 #[scv L S n] w fun e w' => e = .returned (.int .i64 c) ∧ Below w.heap.size w w') ∧
      (c = 0 ∨ c = 6 ∨ c = 28) ∧ (c = 0 → fin L ∧ fin S ∧ 0 < rv (rg S) ∧ 1 ≤ n ∧ n ≤ 1073741824) := by
  cases hnL : isNan L with
  | true =>
    have i1 := Lib.hid (isnan_is hnL)
    have j1 := Lib.hid (none_is hnL)
    refine ⟨28, fun w => ?_, fun w => ?_, .inr (.inr rfl), fun h => absurd h (by decide)⟩
    · go_enter Try.func24, Try.ntmps24
      go_upto_region 1 with (fail)
      refine name_wp (fun w1 => Below w.heap.size w w1 ∧ w1.heap[w.heap.size]? = some (.cells #[.float .f64 L, .float .f64 S, .int .u32 n] 29 (0, 0))) ⟨(Below.refl _ _).alloc (Nat.le_refl _) _, alloc_at rfl⟩ ?_
      rintro w1 ⟨hb, kx⟩
      obtain ⟨c0, c1, c2⟩ := blkS kx
      go_wp2_with fail
      refine call_then (i1.out _) ?_
      clear c0 c1 c2
      intro w2 hb2
      replace hb := below_next hb hb.size hb2
      replace kx := keeps hb2 kx
      clear hb2
      obtain ⟨c0, c1, c2⟩ := blkS kx
      go_wp2
      go_ret
      exact ⟨rfl, hb⟩
    · go_enter Try.func28, Try.ntmps28
      go_upto_region 1 with (fail)
      refine name_wp (fun w1 => Below w.heap.size w w1 ∧ w1.heap[w.heap.size]? = some (.cells #[.float .f64 L, .float .f64 S, .int .u32 n] 47 (0, 0))) ⟨(Below.refl _ _).alloc (Nat.le_refl _) _, alloc_at rfl⟩ ?_
      rintro w1 ⟨hb, kx⟩
      obtain ⟨c0, c1, c2⟩ := blkS kx
      go_wp2_with fail
      refine call_then (j1.out _) ?_
      clear c0 c1 c2
      intro w2 hb2
      replace hb := below_next hb hb.size hb2
      replace kx := keeps hb2 kx
      clear hb2
      obtain ⟨c0, c1, c2⟩ := blkS kx
      go_wp2
      go_ret
      exact ⟨rfl, hb⟩
  | false =>
    have i1 := Lib.hid (isnan_is hnL)
    have j1 := Lib.hid (none_is hnL)
    cases hnS : isNan S with
    | true =>
      have i2 := Lib.hid (isnan_is hnS)
      have j2 := Lib.hid (none_is hnS)
      refine ⟨28, fun w => ?_, fun w => ?_, .inr (.inr rfl), fun h => absurd h (by decide)⟩
      · go_enter Try.func24, Try.ntmps24
        go_upto_region 1 with (fail)
        refine name_wp (fun w1 => Below w.heap.size w w1 ∧ w1.heap[w.heap.size]? = some (.cells #[.float .f64 L, .float .f64 S, .int .u32 n] 29 (0, 0))) ⟨(Below.refl _ _).alloc (Nat.le_refl _) _, alloc_at rfl⟩ ?_
        rintro w1 ⟨hb, kx⟩
        obtain ⟨c0, c1, c2⟩ := blkS kx
        go_wp2_with fail
        refine call_then (i1.out _) ?_
        clear c0 c1 c2
        intro w2 hb2
        replace hb := below_next hb hb.size hb2
        replace kx := keeps hb2 kx
        clear hb2
        obtain ⟨c0, c1, c2⟩ := blkS kx
        go_wp2_with fail
        refine call_then (i2.out _) ?_
        clear c0 c1 c2
        intro w2 hb2
        replace hb := below_next hb hb.size hb2
        replace kx := keeps hb2 kx
        clear hb2
        obtain ⟨c0, c1, c2⟩ := blkS kx
        go_wp2
        go_ret
        exact ⟨rfl, hb⟩
      · go_enter Try.func28, Try.ntmps28
        go_upto_region 1 with (fail)
        refine name_wp (fun w1 => Below w.heap.size w w1 ∧ w1.heap[w.heap.size]? = some (.cells #[.float .f64 L, .float .f64 S, .int .u32 n] 47 (0, 0))) ⟨(Below.refl _ _).alloc (Nat.le_refl _) _, alloc_at rfl⟩ ?_
        rintro w1 ⟨hb, kx⟩
        obtain ⟨c0, c1, c2⟩ := blkS kx
        go_wp2_with fail
        refine call_then (j1.out _) ?_
        clear c0 c1 c2
        intro w2 hb2
        replace hb := below_next hb hb.size hb2
        replace kx := keeps hb2 kx
        clear hb2
        obtain ⟨c0, c1, c2⟩ := blkS kx
        go_wp2_with fail
        refine call_then (j2.out _) ?_
        clear c0 c1 c2
        intro w2 hb2
        replace hb := below_next hb hb.size hb2
        replace kx := keeps hb2 kx
        clear hb2
        obtain ⟨c0, c1, c2⟩ := blkS kx
        go_wp2
        go_ret
        exact ⟨rfl, hb⟩
    | false =>
      have i2 := Lib.hid (isnan_is hnS)
      have j2 := Lib.hid (none_is hnS)
      rcases whl_cases (whl_of hnL) with fL | iL
      · have f1 := Lib.hid (finite_fin fL hl)
        have b1 := Lib.hid (beyond_fin fL)
        rcases whl_cases (whl_of hnS) with fS | iS
        · have f2 := Lib.hid (finite_fin fS hs)
          have b2 := Lib.hid (beyond_fin fS)
          by_cases hp : 0 < kv S
          · have o1 : (FloatKind.f64.format.order S 0 == some .lt || FloatKind.f64.format.order S 0 == some .eq) = false := by
              show (od S 0 == some .lt || od S 0 == some .eq) = false
              rw [(gt_fin fS D_zero.fin).2 (by rw [kv_zero]; exact hp)]; rfl
            have o2 : (FloatKind.f64.format.order S 0 == some .gt) = true := by
              show (od S 0 == some .gt) = true
              rw [(gt_fin fS D_zero.fin).2 (by rw [kv_zero]; exact hp)]; rfl
            have hrS : 0 < rv (rg S) := by
              have := kv_abs S
              omega
            by_cases hn0 : n < 1
            · have n0 : n = 0 := by omega
              subst n0
              refine ⟨6, fun w => ?_, fun w => ?_, .inr (.inl rfl), fun h => absurd h (by decide)⟩
              · obtain ⟨n, hn⟩ : ∃ n : Int, n = 0 := ⟨0, rfl⟩
                rw [← hn]
                have hz : n < 1 := by omega
                replace hn := Lib.hid hn
                go_enter Try.func24, Try.ntmps24
                go_upto_region 1 with (fail)
                refine name_wp (fun w1 => Below w.heap.size w w1 ∧ w1.heap[w.heap.size]? = some (.cells #[.float .f64 L, .float .f64 S, .int .u32 n] 29 (0, 0))) ⟨(Below.refl _ _).alloc (Nat.le_refl _) _, alloc_at rfl⟩ ?_
                rintro w1 ⟨hb, kx⟩
                obtain ⟨c0, c1, c2⟩ := blkS kx
                go_wp2_with fail
                refine call_then (i1.out _) ?_
                clear c0 c1 c2
                intro w2 hb2
                replace hb := below_next hb hb.size hb2
                replace kx := keeps hb2 kx
                clear hb2
                obtain ⟨c0, c1, c2⟩ := blkS kx
                go_wp2_with fail
                refine call_then (i2.out _) ?_
                clear c0 c1 c2
                intro w2 hb2
                replace hb := below_next hb hb.size hb2
                replace kx := keeps hb2 kx
                clear hb2
                obtain ⟨c0, c1, c2⟩ := blkS kx
                go_wp2_with fail
                refine call_then (f1.out _) ?_
                clear c0 c1 c2
                intro w2 hb2
                replace hb := below_next hb hb.size hb2
                replace kx := keeps hb2 kx
                clear hb2
                obtain ⟨c0, c1, c2⟩ := blkS kx
                go_wp2_with fail
                refine call_then (f2.out _) ?_
                clear c0 c1 c2
                intro w2 hb2
                replace hb := below_next hb hb.size hb2
                replace kx := keeps hb2 kx
                clear hb2
                obtain ⟨c0, c1, c2⟩ := blkS kx
                go_wp2
                go_ret
                exact ⟨rfl, hb⟩
              · obtain ⟨n, hn⟩ : ∃ n : Int, n = 0 := ⟨0, rfl⟩
                rw [← hn]
                have hz : (n == 0) = true := by rw [hn]; rfl
                replace hn := Lib.hid hn
                go_enter Try.func28, Try.ntmps28
                go_upto_region 1 with (fail)
                refine name_wp (fun w1 => Below w.heap.size w w1 ∧ w1.heap[w.heap.size]? = some (.cells #[.float .f64 L, .float .f64 S, .int .u32 n] 47 (0, 0))) ⟨(Below.refl _ _).alloc (Nat.le_refl _) _, alloc_at rfl⟩ ?_
                rintro w1 ⟨hb, kx⟩
                obtain ⟨c0, c1, c2⟩ := blkS kx
                go_wp2_with fail
                refine call_then (j1.out _) ?_
                clear c0 c1 c2
                intro w2 hb2
                replace hb := below_next hb hb.size hb2
                replace kx := keeps hb2 kx
                clear hb2
                obtain ⟨c0, c1, c2⟩ := blkS kx
                go_wp2_with fail
                refine call_then (j2.out _) ?_
                clear c0 c1 c2
                intro w2 hb2
                replace hb := below_next hb hb.size hb2
                replace kx := keeps hb2 kx
                clear hb2
                obtain ⟨c0, c1, c2⟩ := blkS kx
                go_wp2_with fail
                refine call_then (b1.out _) ?_
                clear c0 c1 c2
                intro w2 hb2
                replace hb := below_next hb hb.size hb2
                replace kx := keeps hb2 kx
                clear hb2
                obtain ⟨c0, c1, c2⟩ := blkS kx
                go_wp2_with fail
                refine call_then (b2.out _) ?_
                clear c0 c1 c2
                intro w2 hb2
                replace hb := below_next hb hb.size hb2
                replace kx := keeps hb2 kx
                clear hb2
                obtain ⟨c0, c1, c2⟩ := blkS kx
                go_wp2
                go_ret
                exact ⟨rfl, hb⟩
            · have hne : (n == 0) = false := by
                have : n ≠ 0 := by omega
                simpa using this
              have hn2 : 0 ≤ n := by omega
              by_cases hn1 : 1073741824 < n
              · refine ⟨6, fun w => ?_, fun w => ?_, .inr (.inl rfl), fun h => absurd h (by decide)⟩
                · go_enter Try.func24, Try.ntmps24
                  go_upto_region 1 with (fail)
                  refine name_wp (fun w1 => Below w.heap.size w w1 ∧ w1.heap[w.heap.size]? = some (.cells #[.float .f64 L, .float .f64 S, .int .u32 n] 29 (0, 0))) ⟨(Below.refl _ _).alloc (Nat.le_refl _) _, alloc_at rfl⟩ ?_
                  rintro w1 ⟨hb, kx⟩
                  obtain ⟨c0, c1, c2⟩ := blkS kx
                  go_wp2_with fail
                  refine call_then (i1.out _) ?_
                  clear c0 c1 c2
                  intro w2 hb2
                  replace hb := below_next hb hb.size hb2
                  replace kx := keeps hb2 kx
                  clear hb2
                  obtain ⟨c0, c1, c2⟩ := blkS kx
                  go_wp2_with fail
                  refine call_then (i2.out _) ?_
                  clear c0 c1 c2
                  intro w2 hb2
                  replace hb := below_next hb hb.size hb2
                  replace kx := keeps hb2 kx
                  clear hb2
                  obtain ⟨c0, c1, c2⟩ := blkS kx
                  go_wp2_with fail
                  refine call_then (f1.out _) ?_
                  clear c0 c1 c2
                  intro w2 hb2
                  replace hb := below_next hb hb.size hb2
                  replace kx := keeps hb2 kx
                  clear hb2
                  obtain ⟨c0, c1, c2⟩ := blkS kx
                  go_wp2_with fail
                  refine call_then (f2.out _) ?_
                  clear c0 c1 c2
                  intro w2 hb2
                  replace hb := below_next hb hb.size hb2
                  replace kx := keeps hb2 kx
                  clear hb2
                  obtain ⟨c0, c1, c2⟩ := blkS kx
                  go_wp2
                  go_ret
                  exact ⟨rfl, hb⟩
                · go_enter Try.func28, Try.ntmps28
                  go_upto_region 1 with (fail)
                  refine name_wp (fun w1 => Below w.heap.size w w1 ∧ w1.heap[w.heap.size]? = some (.cells #[.float .f64 L, .float .f64 S, .int .u32 n] 47 (0, 0))) ⟨(Below.refl _ _).alloc (Nat.le_refl _) _, alloc_at rfl⟩ ?_
                  rintro w1 ⟨hb, kx⟩
                  obtain ⟨c0, c1, c2⟩ := blkS kx
                  go_wp2_with fail
                  refine call_then (j1.out _) ?_
                  clear c0 c1 c2
                  intro w2 hb2
                  replace hb := below_next hb hb.size hb2
                  replace kx := keeps hb2 kx
                  clear hb2
                  obtain ⟨c0, c1, c2⟩ := blkS kx
                  go_wp2_with fail
                  refine call_then (j2.out _) ?_
                  clear c0 c1 c2
                  intro w2 hb2
                  replace hb := below_next hb hb.size hb2
                  replace kx := keeps hb2 kx
                  clear hb2
                  obtain ⟨c0, c1, c2⟩ := blkS kx
                  go_wp2_with fail
                  refine call_then (b1.out _) ?_
                  clear c0 c1 c2
                  intro w2 hb2
                  replace hb := below_next hb hb.size hb2
                  replace kx := keeps hb2 kx
                  clear hb2
                  obtain ⟨c0, c1, c2⟩ := blkS kx
                  go_wp2_with fail
                  refine call_then (b2.out _) ?_
                  clear c0 c1 c2
                  intro w2 hb2
                  replace hb := below_next hb hb.size hb2
                  replace kx := keeps hb2 kx
                  clear hb2
                  obtain ⟨c0, c1, c2⟩ := blkS kx
                  go_wp2
                  go_ret
                  exact ⟨rfl, hb⟩
              · obtain ⟨nN, rfl⟩ := Int.eq_ofNat_of_zero_le hn2
                obtain ⟨nf, _, _⟩ := D_intN (n := nN) (by omega)
                obtain ⟨v, hv, hvr, _, _⟩ := mul_fin fS nf
                obtain ⟨t, ht, htw, htl⟩ := add_some fL hvr.1
                have hH := Lib.hid (high_gen fL hl hv ht)
                have rH := Lib.hid (rhigh_gen (L := L) hv ht)
                generalize hN : ((nN : Nat) : Int) = n at *
                have hu : unsig t = 0 ∨ unsig t = t := by unfold unsig; split <;> simp
                rcases whl_cases htw with ft | it
                · have fu : fin (unsig t) ∧ unsig t < 18446744073709551616 := by
                    rcases hu with e | e
                    · rw [e]; exact ⟨D_zero.fin, by decide⟩
                    · rw [e]; exact ⟨ft, htl⟩
                  have f3 := Lib.hid (finite_fin fu.1 fu.2)
                  have j3 := Lib.hid (none_is (nan_fin ft))
                  have b3 := Lib.hid (beyond_fin ft)
                  refine ⟨0, fun w => ?_, fun w => ?_, .inl rfl, fun _ => ⟨fL, fS, hrS, by omega, by omega⟩⟩
                  · clear hu fu
                    go_enter Try.func24, Try.ntmps24
                    go_upto_region 1 with (fail)
                    refine name_wp (fun w1 => Below w.heap.size w w1 ∧ w1.heap[w.heap.size]? = some (.cells #[.float .f64 L, .float .f64 S, .int .u32 n] 29 (0, 0))) ⟨(Below.refl _ _).alloc (Nat.le_refl _) _, alloc_at rfl⟩ ?_
                    rintro w1 ⟨hb, kx⟩
                    obtain ⟨c0, c1, c2⟩ := blkS kx
                    go_wp2_with fail
                    refine call_then (i1.out _) ?_
                    clear c0 c1 c2
                    intro w2 hb2
                    replace hb := below_next hb hb.size hb2
                    replace kx := keeps hb2 kx
                    clear hb2
                    obtain ⟨c0, c1, c2⟩ := blkS kx
                    go_wp2_with fail
                    refine call_then (i2.out _) ?_
                    clear c0 c1 c2
                    intro w2 hb2
                    replace hb := below_next hb hb.size hb2
                    replace kx := keeps hb2 kx
                    clear hb2
                    obtain ⟨c0, c1, c2⟩ := blkS kx
                    go_wp2_with fail
                    refine call_then (f1.out _) ?_
                    clear c0 c1 c2
                    intro w2 hb2
                    replace hb := below_next hb hb.size hb2
                    replace kx := keeps hb2 kx
                    clear hb2
                    obtain ⟨c0, c1, c2⟩ := blkS kx
                    go_wp2_with fail
                    refine call_then (f2.out _) ?_
                    clear c0 c1 c2
                    intro w2 hb2
                    replace hb := below_next hb hb.size hb2
                    replace kx := keeps hb2 kx
                    clear hb2
                    obtain ⟨c0, c1, c2⟩ := blkS kx
                    go_wp2_with fail
                    refine call_then (hH.out _) ?_
                    clear c0 c1 c2
                    intro w2 hb2
                    replace hb := below_next hb hb.size hb2
                    replace kx := keeps hb2 kx
                    clear hb2
                    obtain ⟨c0, c1, c2⟩ := blkS kx
                    go_wp2_with fail
                    refine call_then (f3.out _) ?_
                    clear c0 c1 c2
                    intro w2 hb2
                    replace hb := below_next hb hb.size hb2
                    replace kx := keeps hb2 kx
                    clear hb2
                    obtain ⟨c0, c1, c2⟩ := blkS kx
                    go_wp2
                    go_ret
                    exact ⟨rfl, hb⟩
                  · clear hu fu
                    go_enter Try.func28, Try.ntmps28
                    go_upto_region 1 with (fail)
                    refine name_wp (fun w1 => Below w.heap.size w w1 ∧ w1.heap[w.heap.size]? = some (.cells #[.float .f64 L, .float .f64 S, .int .u32 n] 47 (0, 0))) ⟨(Below.refl _ _).alloc (Nat.le_refl _) _, alloc_at rfl⟩ ?_
                    rintro w1 ⟨hb, kx⟩
                    obtain ⟨c0, c1, c2⟩ := blkS kx
                    go_wp2_with fail
                    refine call_then (j1.out _) ?_
                    clear c0 c1 c2
                    intro w2 hb2
                    replace hb := below_next hb hb.size hb2
                    replace kx := keeps hb2 kx
                    clear hb2
                    obtain ⟨c0, c1, c2⟩ := blkS kx
                    go_wp2_with fail
                    refine call_then (j2.out _) ?_
                    clear c0 c1 c2
                    intro w2 hb2
                    replace hb := below_next hb hb.size hb2
                    replace kx := keeps hb2 kx
                    clear hb2
                    obtain ⟨c0, c1, c2⟩ := blkS kx
                    go_wp2_with fail
                    refine call_then (b1.out _) ?_
                    clear c0 c1 c2
                    intro w2 hb2
                    replace hb := below_next hb hb.size hb2
                    replace kx := keeps hb2 kx
                    clear hb2
                    obtain ⟨c0, c1, c2⟩ := blkS kx
                    go_wp2_with fail
                    refine call_then (b2.out _) ?_
                    clear c0 c1 c2
                    intro w2 hb2
                    replace hb := below_next hb hb.size hb2
                    replace kx := keeps hb2 kx
                    clear hb2
                    obtain ⟨c0, c1, c2⟩ := blkS kx
                    go_wp2_with fail
                    refine call_then (rH.out _) ?_
                    clear c0 c1 c2
                    intro w2 hb2
                    replace hb := below_next hb hb.size hb2
                    replace kx := keeps hb2 kx
                    clear hb2
                    obtain ⟨c0, c1, c2⟩ := blkS kx
                    go_wp2_with fail
                    refine call_then (j3.out _) ?_
                    clear c0 c1 c2
                    intro w2 hb2
                    replace hb := below_next hb hb.size hb2
                    replace kx := keeps hb2 kx
                    clear hb2
                    obtain ⟨c0, c1, c2⟩ := blkS kx
                    go_wp2_with fail
                    refine call_then (b3.out _) ?_
                    clear c0 c1 c2
                    intro w2 hb2
                    replace hb := below_next hb hb.size hb2
                    replace kx := keeps hb2 kx
                    clear hb2
                    obtain ⟨c0, c1, c2⟩ := blkS kx
                    go_wp2
                    go_ret
                    exact ⟨rfl, hb⟩
                · have eu : unsig t = t := by
                    unfold unsig
                    rw [if_neg]
                    have o : od t 0 = (Ieee.double.read t).order (Ieee.double.read 0) := rfl
                    rw [o, it, read_finite 0 D_zero.fin]
                    cases sg t <;> decide
                  rw [eu] at hH
                  have f3 := Lib.hid (finite_inf it htl)
                  have j3 := Lib.hid (none_is (whl_num htw))
                  have b3 := Lib.hid (beyond_inf it)
                  refine ⟨6, fun w => ?_, fun w => ?_, .inr (.inl rfl), fun h => absurd h (by decide)⟩
                  · clear hu eu
                    go_enter Try.func24, Try.ntmps24
                    go_upto_region 1 with (fail)
                    refine name_wp (fun w1 => Below w.heap.size w w1 ∧ w1.heap[w.heap.size]? = some (.cells #[.float .f64 L, .float .f64 S, .int .u32 n] 29 (0, 0))) ⟨(Below.refl _ _).alloc (Nat.le_refl _) _, alloc_at rfl⟩ ?_
                    rintro w1 ⟨hb, kx⟩
                    obtain ⟨c0, c1, c2⟩ := blkS kx
                    go_wp2_with fail
                    refine call_then (i1.out _) ?_
                    clear c0 c1 c2
                    intro w2 hb2
                    replace hb := below_next hb hb.size hb2
                    replace kx := keeps hb2 kx
                    clear hb2
                    obtain ⟨c0, c1, c2⟩ := blkS kx
                    go_wp2_with fail
                    refine call_then (i2.out _) ?_
                    clear c0 c1 c2
                    intro w2 hb2
                    replace hb := below_next hb hb.size hb2
                    replace kx := keeps hb2 kx
                    clear hb2
                    obtain ⟨c0, c1, c2⟩ := blkS kx
                    go_wp2_with fail
                    refine call_then (f1.out _) ?_
                    clear c0 c1 c2
                    intro w2 hb2
                    replace hb := below_next hb hb.size hb2
                    replace kx := keeps hb2 kx
                    clear hb2
                    obtain ⟨c0, c1, c2⟩ := blkS kx
                    go_wp2_with fail
                    refine call_then (f2.out _) ?_
                    clear c0 c1 c2
                    intro w2 hb2
                    replace hb := below_next hb hb.size hb2
                    replace kx := keeps hb2 kx
                    clear hb2
                    obtain ⟨c0, c1, c2⟩ := blkS kx
                    go_wp2_with fail
                    refine call_then (hH.out _) ?_
                    clear c0 c1 c2
                    intro w2 hb2
                    replace hb := below_next hb hb.size hb2
                    replace kx := keeps hb2 kx
                    clear hb2
                    obtain ⟨c0, c1, c2⟩ := blkS kx
                    go_wp2_with fail
                    refine call_then (f3.out _) ?_
                    clear c0 c1 c2
                    intro w2 hb2
                    replace hb := below_next hb hb.size hb2
                    replace kx := keeps hb2 kx
                    clear hb2
                    obtain ⟨c0, c1, c2⟩ := blkS kx
                    go_wp2
                    go_ret
                    exact ⟨rfl, hb⟩
                  · clear hu eu
                    go_enter Try.func28, Try.ntmps28
                    go_upto_region 1 with (fail)
                    refine name_wp (fun w1 => Below w.heap.size w w1 ∧ w1.heap[w.heap.size]? = some (.cells #[.float .f64 L, .float .f64 S, .int .u32 n] 47 (0, 0))) ⟨(Below.refl _ _).alloc (Nat.le_refl _) _, alloc_at rfl⟩ ?_
                    rintro w1 ⟨hb, kx⟩
                    obtain ⟨c0, c1, c2⟩ := blkS kx
                    go_wp2_with fail
                    refine call_then (j1.out _) ?_
                    clear c0 c1 c2
                    intro w2 hb2
                    replace hb := below_next hb hb.size hb2
                    replace kx := keeps hb2 kx
                    clear hb2
                    obtain ⟨c0, c1, c2⟩ := blkS kx
                    go_wp2_with fail
                    refine call_then (j2.out _) ?_
                    clear c0 c1 c2
                    intro w2 hb2
                    replace hb := below_next hb hb.size hb2
                    replace kx := keeps hb2 kx
                    clear hb2
                    obtain ⟨c0, c1, c2⟩ := blkS kx
                    go_wp2_with fail
                    refine call_then (b1.out _) ?_
                    clear c0 c1 c2
                    intro w2 hb2
                    replace hb := below_next hb hb.size hb2
                    replace kx := keeps hb2 kx
                    clear hb2
                    obtain ⟨c0, c1, c2⟩ := blkS kx
                    go_wp2_with fail
                    refine call_then (b2.out _) ?_
                    clear c0 c1 c2
                    intro w2 hb2
                    replace hb := below_next hb hb.size hb2
                    replace kx := keeps hb2 kx
                    clear hb2
                    obtain ⟨c0, c1, c2⟩ := blkS kx
                    go_wp2_with fail
                    refine call_then (rH.out _) ?_
                    clear c0 c1 c2
                    intro w2 hb2
                    replace hb := below_next hb hb.size hb2
                    replace kx := keeps hb2 kx
                    clear hb2
                    obtain ⟨c0, c1, c2⟩ := blkS kx
                    go_wp2_with fail
                    refine call_then (j3.out _) ?_
                    clear c0 c1 c2
                    intro w2 hb2
                    replace hb := below_next hb hb.size hb2
                    replace kx := keeps hb2 kx
                    clear hb2
                    obtain ⟨c0, c1, c2⟩ := blkS kx
                    go_wp2_with fail
                    refine call_then (b3.out _) ?_
                    clear c0 c1 c2
                    intro w2 hb2
                    replace hb := below_next hb hb.size hb2
                    replace kx := keeps hb2 kx
                    clear hb2
                    obtain ⟨c0, c1, c2⟩ := blkS kx
                    go_wp2
                    go_ret
                    exact ⟨rfl, hb⟩
          · have ng : od S 0 ≠ some .gt := fun e => hp (by have := (gt_fin fS D_zero.fin).1 e; rwa [kv_zero] at this)
            have o1 : (FloatKind.f64.format.order S 0 == some .lt || FloatKind.f64.format.order S 0 == some .eq) = true := by
              show (od S 0 == some .lt || od S 0 == some .eq) = true
              cases ho : od S 0 with
              | none => rw [od_fin fS D_zero.fin] at ho; cases ho
              | some o => cases o <;> first | rfl | (exact absurd ho ng)
            have o2 : (FloatKind.f64.format.order S 0 == some .gt) = false := beq_eq_false_iff_ne.2 ng
            refine ⟨6, fun w => ?_, fun w => ?_, .inr (.inl rfl), fun h => absurd h (by decide)⟩
            · go_enter Try.func24, Try.ntmps24
              go_upto_region 1 with (fail)
              refine name_wp (fun w1 => Below w.heap.size w w1 ∧ w1.heap[w.heap.size]? = some (.cells #[.float .f64 L, .float .f64 S, .int .u32 n] 29 (0, 0))) ⟨(Below.refl _ _).alloc (Nat.le_refl _) _, alloc_at rfl⟩ ?_
              rintro w1 ⟨hb, kx⟩
              obtain ⟨c0, c1, c2⟩ := blkS kx
              go_wp2_with fail
              refine call_then (i1.out _) ?_
              clear c0 c1 c2
              intro w2 hb2
              replace hb := below_next hb hb.size hb2
              replace kx := keeps hb2 kx
              clear hb2
              obtain ⟨c0, c1, c2⟩ := blkS kx
              go_wp2_with fail
              refine call_then (i2.out _) ?_
              clear c0 c1 c2
              intro w2 hb2
              replace hb := below_next hb hb.size hb2
              replace kx := keeps hb2 kx
              clear hb2
              obtain ⟨c0, c1, c2⟩ := blkS kx
              go_wp2_with fail
              refine call_then (f1.out _) ?_
              clear c0 c1 c2
              intro w2 hb2
              replace hb := below_next hb hb.size hb2
              replace kx := keeps hb2 kx
              clear hb2
              obtain ⟨c0, c1, c2⟩ := blkS kx
              go_wp2_with fail
              refine call_then (f2.out _) ?_
              clear c0 c1 c2
              intro w2 hb2
              replace hb := below_next hb hb.size hb2
              replace kx := keeps hb2 kx
              clear hb2
              obtain ⟨c0, c1, c2⟩ := blkS kx
              go_wp2
              go_ret
              exact ⟨rfl, hb⟩
            · go_enter Try.func28, Try.ntmps28
              go_upto_region 1 with (fail)
              refine name_wp (fun w1 => Below w.heap.size w w1 ∧ w1.heap[w.heap.size]? = some (.cells #[.float .f64 L, .float .f64 S, .int .u32 n] 47 (0, 0))) ⟨(Below.refl _ _).alloc (Nat.le_refl _) _, alloc_at rfl⟩ ?_
              rintro w1 ⟨hb, kx⟩
              obtain ⟨c0, c1, c2⟩ := blkS kx
              go_wp2_with fail
              refine call_then (j1.out _) ?_
              clear c0 c1 c2
              intro w2 hb2
              replace hb := below_next hb hb.size hb2
              replace kx := keeps hb2 kx
              clear hb2
              obtain ⟨c0, c1, c2⟩ := blkS kx
              go_wp2_with fail
              refine call_then (j2.out _) ?_
              clear c0 c1 c2
              intro w2 hb2
              replace hb := below_next hb hb.size hb2
              replace kx := keeps hb2 kx
              clear hb2
              obtain ⟨c0, c1, c2⟩ := blkS kx
              go_wp2_with fail
              refine call_then (b1.out _) ?_
              clear c0 c1 c2
              intro w2 hb2
              replace hb := below_next hb hb.size hb2
              replace kx := keeps hb2 kx
              clear hb2
              obtain ⟨c0, c1, c2⟩ := blkS kx
              go_wp2_with fail
              refine call_then (b2.out _) ?_
              clear c0 c1 c2
              intro w2 hb2
              replace hb := below_next hb hb.size hb2
              replace kx := keeps hb2 kx
              clear hb2
              obtain ⟨c0, c1, c2⟩ := blkS kx
              go_wp2
              go_ret
              exact ⟨rfl, hb⟩
        · have f2 := Lib.hid (finite_inf iS hs)
          have b2 := Lib.hid (beyond_inf iS)
          refine ⟨6, fun w => ?_, fun w => ?_, .inr (.inl rfl), fun h => absurd h (by decide)⟩
          · go_enter Try.func24, Try.ntmps24
            go_upto_region 1 with (fail)
            refine name_wp (fun w1 => Below w.heap.size w w1 ∧ w1.heap[w.heap.size]? = some (.cells #[.float .f64 L, .float .f64 S, .int .u32 n] 29 (0, 0))) ⟨(Below.refl _ _).alloc (Nat.le_refl _) _, alloc_at rfl⟩ ?_
            rintro w1 ⟨hb, kx⟩
            obtain ⟨c0, c1, c2⟩ := blkS kx
            go_wp2_with fail
            refine call_then (i1.out _) ?_
            clear c0 c1 c2
            intro w2 hb2
            replace hb := below_next hb hb.size hb2
            replace kx := keeps hb2 kx
            clear hb2
            obtain ⟨c0, c1, c2⟩ := blkS kx
            go_wp2_with fail
            refine call_then (i2.out _) ?_
            clear c0 c1 c2
            intro w2 hb2
            replace hb := below_next hb hb.size hb2
            replace kx := keeps hb2 kx
            clear hb2
            obtain ⟨c0, c1, c2⟩ := blkS kx
            go_wp2_with fail
            refine call_then (f1.out _) ?_
            clear c0 c1 c2
            intro w2 hb2
            replace hb := below_next hb hb.size hb2
            replace kx := keeps hb2 kx
            clear hb2
            obtain ⟨c0, c1, c2⟩ := blkS kx
            go_wp2_with fail
            refine call_then (f2.out _) ?_
            clear c0 c1 c2
            intro w2 hb2
            replace hb := below_next hb hb.size hb2
            replace kx := keeps hb2 kx
            clear hb2
            obtain ⟨c0, c1, c2⟩ := blkS kx
            go_wp2
            go_ret
            exact ⟨rfl, hb⟩
          · go_enter Try.func28, Try.ntmps28
            go_upto_region 1 with (fail)
            refine name_wp (fun w1 => Below w.heap.size w w1 ∧ w1.heap[w.heap.size]? = some (.cells #[.float .f64 L, .float .f64 S, .int .u32 n] 47 (0, 0))) ⟨(Below.refl _ _).alloc (Nat.le_refl _) _, alloc_at rfl⟩ ?_
            rintro w1 ⟨hb, kx⟩
            obtain ⟨c0, c1, c2⟩ := blkS kx
            go_wp2_with fail
            refine call_then (j1.out _) ?_
            clear c0 c1 c2
            intro w2 hb2
            replace hb := below_next hb hb.size hb2
            replace kx := keeps hb2 kx
            clear hb2
            obtain ⟨c0, c1, c2⟩ := blkS kx
            go_wp2_with fail
            refine call_then (j2.out _) ?_
            clear c0 c1 c2
            intro w2 hb2
            replace hb := below_next hb hb.size hb2
            replace kx := keeps hb2 kx
            clear hb2
            obtain ⟨c0, c1, c2⟩ := blkS kx
            go_wp2_with fail
            refine call_then (b1.out _) ?_
            clear c0 c1 c2
            intro w2 hb2
            replace hb := below_next hb hb.size hb2
            replace kx := keeps hb2 kx
            clear hb2
            obtain ⟨c0, c1, c2⟩ := blkS kx
            go_wp2_with fail
            refine call_then (b2.out _) ?_
            clear c0 c1 c2
            intro w2 hb2
            replace hb := below_next hb hb.size hb2
            replace kx := keeps hb2 kx
            clear hb2
            obtain ⟨c0, c1, c2⟩ := blkS kx
            go_wp2
            go_ret
            exact ⟨rfl, hb⟩
      · have f1 := Lib.hid (finite_inf iL hl)
        have b1 := Lib.hid (beyond_inf iL)
        refine ⟨6, fun w => ?_, fun w => ?_, .inr (.inl rfl), fun h => absurd h (by decide)⟩
        · go_enter Try.func24, Try.ntmps24
          go_upto_region 1 with (fail)
          refine name_wp (fun w1 => Below w.heap.size w w1 ∧ w1.heap[w.heap.size]? = some (.cells #[.float .f64 L, .float .f64 S, .int .u32 n] 29 (0, 0))) ⟨(Below.refl _ _).alloc (Nat.le_refl _) _, alloc_at rfl⟩ ?_
          rintro w1 ⟨hb, kx⟩
          obtain ⟨c0, c1, c2⟩ := blkS kx
          go_wp2_with fail
          refine call_then (i1.out _) ?_
          clear c0 c1 c2
          intro w2 hb2
          replace hb := below_next hb hb.size hb2
          replace kx := keeps hb2 kx
          clear hb2
          obtain ⟨c0, c1, c2⟩ := blkS kx
          go_wp2_with fail
          refine call_then (i2.out _) ?_
          clear c0 c1 c2
          intro w2 hb2
          replace hb := below_next hb hb.size hb2
          replace kx := keeps hb2 kx
          clear hb2
          obtain ⟨c0, c1, c2⟩ := blkS kx
          go_wp2_with fail
          refine call_then (f1.out _) ?_
          clear c0 c1 c2
          intro w2 hb2
          replace hb := below_next hb hb.size hb2
          replace kx := keeps hb2 kx
          clear hb2
          obtain ⟨c0, c1, c2⟩ := blkS kx
          go_wp2
          go_ret
          exact ⟨rfl, hb⟩
        · go_enter Try.func28, Try.ntmps28
          go_upto_region 1 with (fail)
          refine name_wp (fun w1 => Below w.heap.size w w1 ∧ w1.heap[w.heap.size]? = some (.cells #[.float .f64 L, .float .f64 S, .int .u32 n] 47 (0, 0))) ⟨(Below.refl _ _).alloc (Nat.le_refl _) _, alloc_at rfl⟩ ?_
          rintro w1 ⟨hb, kx⟩
          obtain ⟨c0, c1, c2⟩ := blkS kx
          go_wp2_with fail
          refine call_then (j1.out _) ?_
          clear c0 c1 c2
          intro w2 hb2
          replace hb := below_next hb hb.size hb2
          replace kx := keeps hb2 kx
          clear hb2
          obtain ⟨c0, c1, c2⟩ := blkS kx
          go_wp2_with fail
          refine call_then (j2.out _) ?_
          clear c0 c1 c2
          intro w2 hb2
          replace hb := below_next hb hb.size hb2
          replace kx := keeps hb2 kx
          clear hb2
          obtain ⟨c0, c1, c2⟩ := blkS kx
          go_wp2_with fail
          refine call_then (b1.out _) ?_
          clear c0 c1 c2
          intro w2 hb2
          replace hb := below_next hb hb.size hb2
          replace kx := keeps hb2 kx
          clear hb2
          obtain ⟨c0, c1, c2⟩ := blkS kx
          go_wp2
          go_ret
          exact ⟨rfl, hb⟩
end Go.Proofs.Ytgmmdhefcijgeaa
