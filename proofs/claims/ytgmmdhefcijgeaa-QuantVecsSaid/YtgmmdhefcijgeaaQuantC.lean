/-
  Contracts of a scale whose numbers are told by few bits.
-/
import Derived.Test.YtgmmdhefcijgeaaDy
import Derived.Test.YtgmmdhefcijgeaaQuantAwake
import Derived.Test.YtgmmdhefcijgeaaMid
import Derived.Laws.BitsAllLaws
import Derived.Laws.FloatArith
namespace Go.Proofs.Ytgmmdhefcijgeaa
open Go.RowKit Flow
set_option linter.unusedVariables false
set_option linter.unusedSimpArgs false
attribute [local go_sem] bits_run from_run

theorem run_mul {x y z : Nat} (h : mulF x y = some z) (w : World) : (binOp .mul 27 (.float .f64 x) (.float .f64 y)).run Try.prog w = .ok (.float .f64 z) w := run_float_arith (P := Try.prog) w .mul 27 .f64 x y z h
theorem run_add {x y z : Nat} (h : addF x y = some z) (w : World) : (binOp .add 27 (.float .f64 x) (.float .f64 y)).run Try.prog w = .ok (.float .f64 z) w := run_float_arith (P := Try.prog) w .add 27 .f64 x y z h
theorem run_dif {x y z : Nat} (h : subF x y = some z) (w : World) : (binOp .sub 27 (.float .f64 x) (.float .f64 y)).run Try.prog w = .ok (.float .f64 z) w := run_float_arith (P := Try.prog) w .sub 27 .f64 x y z h
theorem run_quo {x y z : Nat} (h : quoF x y = some z) (w : World) : (binOp .quo 27 (.float .f64 x) (.float .f64 y)).run Try.prog w = .ok (.float .f64 z) w := run_float_arith (P := Try.prog) w .quo 27 .f64 x y z h
theorem D_eight : D 4620693217682128896 32768 := by
  have h := D_int 8 (by decide)
  rw [show floatOfInt .f64 8 = 4620693217682128896 by decide +kernel] at h
  exact h
theorem D_one : D 4607182418800017408 4096 := by
  have h := D_int 1 (by decide)
  rw [show floatOfInt .f64 1 = 4607182418800017408 by decide +kernel] at h
  exact h
theorem D_sixteen : D 4625196817309499392 65536 := by
  have h := D_int 16 (by decide)
  rw [show floatOfInt .f64 16 = 4625196817309499392 by decide +kernel] at h
  exact h
theorem results_cell1 {P : Program} {fn : Func} {tmps : Array Value} {w : World} {a : Nat} {t : TypeId} {b : Nat} {v : Value} (hr : fn.results = #[.cell a t]) (ha : tmps.getD a undef = .pointer (some ⟨b, 0, none⟩))
    (h : (loadVar t ⟨b, 0, none⟩).run P w = .ok v w) : (results fn tmps).run P w = .ok v w := by
  rw [Array.getD_eq_getD_getElem?] at ha
  simp [results, hr, asAddr, ha, h]
theorem one_sc (a b : Nat) (c : Int) : ∀ u ∈ [Value.float .f64 a, .float .f64 b, .int .u32 c], u.oneCell' = true := by
  intro u hu
  simp only [List.mem_cons, List.not_mem_nil, or_false] at hu
  rcases hu with rfl | rfl | rfl <;> rfl
/-- A scale whose numbers are told by few bits. -/
structure Sc (L S : Nat) (n a s : Int) : Prop where
  low : D L a
  step : D S (s * 256)
  alow : -16777216 ≤ a ∧ a ≤ 16777216
  ss : 1 ≤ s ∧ s ≤ 64
  nn : 1 ≤ n ∧ n ≤ 65536
abbrev scv (L S : Nat) (n : Int) : Value := .agg #[.float .f64 L, .float .f64 S, .int .u32 n]
set_option maxRecDepth 20000 in
set_option maxHeartbeats 4000000 in
theorem scale_any (a b c : Int) (ha : -32768 ≤ a ∧ a < 32768) (w : World) : Calls Try.prog 8 #[.agg #[.int .i16 a, .int .i16 b, .int .i16 c]] w fun e w' => ∃ L S n s, e = .returned (scv L S n) ∧ Sc L S n (a * 512) s ∧ Below w.heap.size w w' := by
  obtain ⟨L, hL, dL⟩ := D_quo (c := a * 512) (D_int a (by omega)) D_eight (by decide) (by omega) (by omega)
  obtain ⟨b0, hb0⟩ : ∃ b0, IntKind.u16.wrap b = b0 := ⟨_, rfl⟩
  obtain ⟨c0, hc0⟩ : ∃ c0, IntKind.u16.wrap c = c0 := ⟨_, rfl⟩
  have hb1 : 0 ≤ b0 ∧ b0 < 65536 := by rw [← hb0]; simp only [IntKind.wrap, IntKind.signed, IntKind.bits]; constructor <;> (simp; omega)
  have hc1 : 0 ≤ c0 ∧ c0 < 65536 := by rw [← hc0]; simp only [IntKind.wrap, IntKind.signed, IntKind.bits]; constructor <;> (simp; omega)
  obtain ⟨s0, hs0⟩ : ∃ s0, b0.tmod 64 = s0 := ⟨_, rfl⟩
  have hs1 : 0 ≤ s0 ∧ s0 < 64 := by rw [← hs0, Int.tmod_eq_emod_of_nonneg hb1.1]; omega
  obtain ⟨T, hT, dT⟩ := D_add D_one (D_int s0 (by omega)) (by omega)
  obtain ⟨S, hS, dS⟩ := D_quo (c := (s0 + 1) * 256) dT D_sixteen (by decide) (by omega) (by omega)
  have m1 := run_quo hL
  have m2 := run_add hT
  have m3 := run_quo hS
  have h0 : (0 : Int) ≤ c0 := hc1.1
  have h1 : c0 < 65536 := hc1.2
  have hsc : Sc L S (1 + c0) (a * 512) (s0 + 1) := ⟨dL, dS, by omega, by omega, by omega⟩
  replace hsc := Lib.hid hsc
  clear hL hT hS dL dT dS hs1 hc1 hb1 ha
  have hb := ((Below.refl w.heap.size w).alloc (Nat.le_refl _) (.cells #[.int .i16 a, .int .i16 b, .int .i16 c] 24 (0, 0))).alloc (by simp) (.cells #[.float .f64 0, .float .f64 0, .int .u32 0] 29 (0, 0))
  have kz := alloc_at (w := w.alloc (.cells #[.int .i16 a, .int .i16 b, .int .i16 c] 24 (0, 0))) (k := w.heap.size + 1) (o := .cells #[.float .f64 0, .float .f64 0, .int .u32 0] 29 (0, 0)) (by simp)
  go_enter Try.func8, Try.ntmps8
  go_wp2_with (first
    | (refine list_store_whole _ _ _ _ [.float .f64 L, .float .f64 S, .int .u32 (1 + c0)] [.float .f64 0, .float .f64 0, .int .u32 0] 29 rfl rfl rfl rfl kz rfl (by kernel_rfl) (one_sc _ _ _) ?_; intro w3 hbut kz2; replace hb := hbut.below hb (by omega) hb.size))
  have hld := loadVar_whole _ (At0.of_block kz2) Try.underlying29 rfl (by kernel_rfl)
  exact bodyPost_ret (v := scv L S (1 + c0)) (results_cell1 Try.results8 rfl hld) rfl ⟨L, S, 1 + c0, s0 + 1, rfl, hsc.out, hb⟩
/-- A product and a sum, each told exactly. -/
theorem line_D {L S K : Nat} {a b k : Int} (hL : D L a) (hS : D S b) (hK : D K (k * 4096)) (ha : a.natAbs < 2147483648) (hbk : (b * k).natAbs < 4294967296) :
    ∃ z, D z (a + b * k) ∧ ∀ w, Calls Try.prog 25 #[.float .f64 L, .float .f64 4607182418800017408, .float .f64 S, .float .f64 K] w fun e w' => e = .returned (.float .f64 z) ∧ Below w.heap.size w w' := by
  obtain ⟨u, hu, du⟩ := D_mul (c := a) hL D_one (by omega) rfl
  obtain ⟨v, hv, dv⟩ := D_mul (c := b * k) hS hK (by omega) (by rw [Int.mul_assoc])
  obtain ⟨t, ht, dt⟩ := D_add du dv (by omega)
  refine ⟨unsig t, D_unsig dt, fun w => ?_⟩
  have m1 := run_mul hu
  have m2 := run_mul hv
  have m3 := run_add ht
  have h := unsigned_any t
  replace h := Lib.hid h
  clear hu hv ht du dv dt hL hS hK ha hbk
  go_enter Try.func25, Try.ntmps25
  go_wp2_with fail
  refine call_then (h.out _) ?_
  intro w2 hb
  go_wp2
  go_ret
  exact ⟨rfl, hb⟩
theorem abs_any (x : Nat) (hx : x < 18446744073709551616) (w : World) : Calls Try.prog 13 #[.float .f64 x] w fun e w' => e = .returned (.float .f64 (x % 9223372036854775808)) ∧ Below w.heap.size w w' := by
  have e : bits .andNot .u64 (x : Int) 9223372036854775808 = ((x % 9223372036854775808 : Nat) : Int) := by
    have h := u64_andNot_nat x 9223372036854775808 hx (by decide)
    rw [show (18446744073709551615 - 9223372036854775808 : Nat) = 9223372036854775807 by decide] at h
    rw [← Nat.and_two_pow_sub_one_eq_mod x 63]
    exact h
  generalize hq : x % 9223372036854775808 = q at *
  clear hq
  replace e := Lib.hid e
  go_enter Try.func13, Try.ntmps13
  go_wp2
  go_ret
  exact ⟨by rw [e.out]; rfl, Below.refl _ _⟩
theorem fin_bare {x : Nat} (h : fin x) : fin (x % 9223372036854775808) := by
  unfold Proofs.Ytgmmdhefcijgeaa.fin rg at *
  omega
theorem sg_bare (x : Nat) : sg (x % 9223372036854775808) = false := by
  unfold sg
  rw [show x % 9223372036854775808 / 9223372036854775808 = 0 by omega]; rfl
theorem kv_plain {x : Nat} (h : sg x = false) : kv x = (rv (rg x) : Int) := by
  unfold kv; rw [h]; rfl
theorem not_above {x M : Nat} (h : fin x) (hM : fin M) (hs : sg M = false) (hr : rg (x % 9223372036854775808) ≤ rg M) : (FloatKind.f64.format.order (x % 9223372036854775808) M == some .gt) = false := by
  have h1 := od_fin (fin_bare h) hM
  have h2 := rv_le hr
  show (od _ _ == _) = false
  rw [h1, kv_plain hs, kv_plain (sg_bare x)]
  have : compare (rv (rg (x % 9223372036854775808)) : Int) (rv (rg M) : Int) ≠ .gt := fun e => by
    have := Int.compare_eq_gt.1 e
    omega
  simpa using this
theorem not_beyond {x : Nat} (h : fin x) : (FloatKind.f64.format.order (x % 9223372036854775808) 9218868437227405311 == some .gt) = false := by
  refine not_above h (by unfold Proofs.Ytgmmdhefcijgeaa.fin; decide) (by decide) ?_
  unfold Proofs.Ytgmmdhefcijgeaa.fin rg at *
  omega
theorem isinf_fin {x : Nat} (hx : fin x) (hl : x < 18446744073709551616) (w : World) : Calls Try.prog 34 #[.float .f64 x, .int .i64 0] w fun e w' => e = .returned (.bool false) ∧ Below w.heap.size w w' := by
  have h := not_beyond hx
  have h2 := abs_any x hl
  generalize x % 9223372036854775808 = y at *
  replace h2 := Lib.hid h2
  go_enter Try.func34, Try.ntmps34
  go_wp2_with fail
  refine call_then (h2.out _) ?_
  intro w2 hb
  go_wp2
  go_ret
  exact ⟨rfl, hb⟩
theorem finite_fin {x : Nat} (hx : fin x) (hl : x < 18446744073709551616) (w : World) : Calls Try.prog 31 #[.float .f64 x] w fun e w' => e = .returned (.bool true) ∧ Below w.heap.size w w' := by
  have h := isnan_no x (nan_fin hx)
  have h2 := isinf_fin hx hl
  replace h := Lib.hid h
  replace h2 := Lib.hid h2
  go_enter Try.func31, Try.ntmps31
  go_wp2_with fail
  refine call_then (h.out _) ?_
  intro w2 hb
  go_wp2_with fail
  refine call_then (h2.out _) ?_
  intro w3 hb3
  replace hb := below_next hb hb.size hb3
  go_wp2
  go_ret
  exact ⟨rfl, hb⟩
theorem high_good {L S : Nat} {n a s : Int} (h : Sc L S n a s) : ∃ z, D z (a + s * 256 * n) ∧ ∀ w, Calls Try.prog 12 #[scv L S n] w fun e w' => e = .returned (.float .f64 z) ∧ Below w.heap.size w w' := by
  have hn := h.nn
  have hs := h.ss
  have ha := h.alow
  have hsn : s * 256 * n ≤ 64 * 256 * 65536 := by
    have h1 : s * 256 * n ≤ s * 256 * 65536 := Int.mul_le_mul_of_nonneg_left hn.2 (by omega)
    omega
  have hsn0 : 0 ≤ s * 256 * n := Int.mul_nonneg (by omega) (by omega)
  obtain ⟨z, hz, hc⟩ := line_D h.low h.step (D_int n (by omega)) (by omega) (by omega)
  refine ⟨z, hz, fun w => ?_⟩
  replace hc := Lib.hid hc
  clear hz hsn hsn0 hn hs ha h
  go_enter Try.func12, Try.ntmps12
  go_wp2_with fail
  refine call_then (hc.out _) ?_
  intro w2 hb
  replace hb := below_next ((Below.refl w.heap.size w).alloc (Nat.le_refl _) _) (by simp) hb
  go_wp2
  go_ret
  exact ⟨rfl, hb⟩
theorem check_good {L S : Nat} {n a s : Int} (h : Sc L S n a s) (w : World) : Calls Try.prog 24 #[scv L S n] w fun e w' => e = .returned (.int .i64 0) ∧ Below w.heap.size w w' := by
  have o1 : (FloatKind.f64.format.order S 0 == some .lt || FloatKind.f64.format.order S 0 == some .eq) = false := by
    have := D_order h.step D_zero
    have hs := h.ss
    show (od S 0 == some .lt || od S 0 == some .eq) = false
    rw [this, Int.compare_eq_gt.2 (by omega)]
    rfl
  obtain ⟨z, hz, hH⟩ := high_good h
  have n1 : ¬ n < 1 := by have := h.nn; omega
  have n2 : ¬ 1073741824 < n := by have := h.nn; omega
  have i1 := isnan_no L (nan_fin h.low.fin)
  have i2 := isnan_no S (nan_fin h.step.fin)
  have f1 := finite_fin h.low.fin h.low.small
  have f2 := finite_fin h.step.fin h.step.small
  have f3 := finite_fin hz.fin hz.small
  replace hH := Lib.hid hH
  replace i1 := Lib.hid i1
  replace i2 := Lib.hid i2
  replace f1 := Lib.hid f1
  replace f2 := Lib.hid f2
  replace f3 := Lib.hid f3
  clear hz h
  go_enter Try.func24, Try.ntmps24
  go_upto_region 1 with (fail)
  refine name_wp (fun w1 => Below w.heap.size w w1 ∧ w1.heap[w.heap.size]? = some (.cells #[.float .f64 L, .float .f64 S, .int .u32 n] 29 (0, 0))) ⟨(Below.refl _ _).alloc (Nat.le_refl _) _, alloc_at rfl⟩ ?_
  rintro w1 ⟨hb, kx⟩
  obtain ⟨c0, c1, c2⟩ := blkS kx
  go_wp2_with fail
  refine call_then (i1.out _) ?_
  clear c0 c1 c2
  intro w2 hb2
  replace hb := below_next hb hb.size hb2
  replace kx := keeps hb2 kx
  clear hb2
  obtain ⟨c0, c1, c2⟩ := blkS kx
  go_wp2_with fail
  refine call_then (i2.out _) ?_
  clear c0 c1 c2
  intro w2 hb2
  replace hb := below_next hb hb.size hb2
  replace kx := keeps hb2 kx
  clear hb2
  obtain ⟨c0, c1, c2⟩ := blkS kx
  go_wp2_with fail
  refine call_then (f1.out _) ?_
  clear c0 c1 c2
  intro w2 hb2
  replace hb := below_next hb hb.size hb2
  replace kx := keeps hb2 kx
  clear hb2
  obtain ⟨c0, c1, c2⟩ := blkS kx
  go_wp2_with fail
  refine call_then (f2.out _) ?_
  clear c0 c1 c2
  intro w2 hb2
  replace hb := below_next hb hb.size hb2
  replace kx := keeps hb2 kx
  clear hb2
  obtain ⟨c0, c1, c2⟩ := blkS kx
  go_wp2_with fail
  refine call_then (hH.out _) ?_
  clear c0 c1 c2
  intro w2 hb2
  replace hb := below_next hb hb.size hb2
  replace kx := keeps hb2 kx
  clear hb2
  obtain ⟨c0, c1, c2⟩ := blkS kx
  go_wp2_with fail
  refine call_then (f3.out _) ?_
  clear c0 c1 c2
  intro w2 hb2
  replace hb := below_next hb hb.size hb2
  replace kx := keeps hb2 kx
  clear hb2
  obtain ⟨c0, c1, c2⟩ := blkS kx
  go_wp2
  go_ret
  exact ⟨rfl, hb⟩
theorem number_good {L S : Nat} {n a s k : Int} (h : Sc L S n a s) (hk : 0 ≤ k ∧ k ≤ n) : ∃ z, D z (a + s * 256 * k) ∧ ∀ w, Calls Try.prog 9 #[scv L S n, .int .u32 k] w fun e w' => e = .returned (.tuple #[.float .f64 z, .int .i64 0]) ∧ Below w.heap.size w w' := by
  have hn := h.nn
  have hs := h.ss
  have ha := h.alow
  have hsn : s * 256 * k ≤ 64 * 256 * 65536 := by
    have h1 : s * 256 * k ≤ s * 256 * 65536 := Int.mul_le_mul_of_nonneg_left (by omega) (by omega)
    omega
  have hsn0 : 0 ≤ s * 256 * k := Int.mul_nonneg (by omega) (by omega)
  obtain ⟨z, hz, hc⟩ := line_D h.low h.step (D_int k (by omega)) (by omega) (by omega)
  refine ⟨z, hz, fun w => ?_⟩
  have hch := check_good h
  have hkn : ¬ n < k := by omega
  replace hc := Lib.hid hc
  replace hch := Lib.hid hch
  clear hz hsn hsn0 hn hs ha h hk
  go_enter Try.func9, Try.ntmps9
  go_upto_region 1 with (fail)
  refine name_wp (fun w1 => Below w.heap.size w w1 ∧ w1.heap[w.heap.size]? = some (.cells #[.float .f64 L, .float .f64 S, .int .u32 n] 29 (0, 0))) ⟨(Below.refl _ _).alloc (Nat.le_refl _) _, alloc_at rfl⟩ ?_
  rintro w1 ⟨hb, kx⟩
  obtain ⟨c0, c1, c2⟩ := blkS kx
  go_wp2_with fail
  refine call_then (hch.out _) ?_
  clear c0 c1 c2
  intro w2 hb2
  replace hb := below_next hb hb.size hb2
  replace kx := keeps hb2 kx
  clear hb2
  obtain ⟨c0, c1, c2⟩ := blkS kx
  go_wp2_with fail
  refine call_then (hc.out _) ?_
  clear c0 c1 c2
  intro w2 hb2
  replace hb := below_next hb hb.size hb2
  replace kx := keeps hb2 kx
  clear hb2
  obtain ⟨c0, c1, c2⟩ := blkS kx
  go_wp2
  exact bodyPost_ret (v := .tuple #[.float .f64 z, .int .i64 0]) (by simp [results, Try.results9, go_sem]) rfl ⟨rfl, hb⟩
theorem toIntegral_number {name : String} {way : Ieee.Toward} {q : Nat} {s : Bool} {m : Nat} {e : Int} (h : FloatKind.f64.decode q = .number s m e) : Extern.MathFloor.toIntegral name way #[.float .f64 q] = pure (.float .f64 (FloatKind.f64.encode (Ieee.Datum.integral way (.number s m e)))) := by
  conv => lhs; whnf
  rw [h]
theorem toIntegral_infinity {name : String} {way : Ieee.Toward} {q : Nat} {s : Bool} (h : FloatKind.f64.decode q = .infinity s) : Extern.MathFloor.toIntegral name way #[.float .f64 q] = pure (.float .f64 (FloatKind.f64.encode (Ieee.Datum.integral way (.infinity s)))) := by
  conv => lhs; whnf
  rw [h]
theorem round_ext (q : Nat) (w : World) (hq : ∀ s t, FloatKind.f64.decode q ≠ .nan s t) : (callFunc 27 #[.float .f64 q]).run Try.prog w = .ok (.value (.float .f64 (FloatKind.f64.encode ((FloatKind.f64.decode q).integral .even)))) w := by
  rw [run_callFunc_extern Try.func27 (by kernel_rfl) (by kernel_rfl) (by kernel_rfl) (e := Extern.MathFloor.toIntegral "math.RoundToEven" .even) (by kernel_rfl)]
  cases hd : FloatKind.f64.decode q with
  | nan s t => exact absurd hd (hq s t)
  | infinity s => rw [toIntegral_infinity hd]; rfl
  | number s m e => rw [toIntegral_number hd]; rfl
theorem not_nan_fin {q : Nat} (h : fin q) : ∀ s t, FloatKind.f64.decode q ≠ .nan s t := by
  intro s t e
  have : Ieee.double.read q = .nan s t := e
  rw [read_finite q h] at this
  cases this
/-- What becomes of a number's step: below all, above all, in between. -/
def Falls (r fN : Nat) (n m : Int) : Prop := (od r 0 = some .lt ∧ m = 0) ∨ (od r 0 ≠ some .lt ∧ od r fN = some .gt ∧ m = n) ∨ (od r 0 ≠ some .lt ∧ od r fN ≠ some .gt ∧ floatToIntVal .f64 r .u32 = some m)
set_option maxHeartbeats 4000000 in
theorem whole_any {L S : Nat} {n m : Int} {x d q r : Nat} (hch : ∀ w, Calls Try.prog 24 #[scv L S n] w fun e w' => e = .returned (.int .i64 0) ∧ Below w.heap.size w w') (hx : isNan x = false)
    (h1 : subF x L = some d) (h2 : quoF d S = some q) (h3 : ∀ w, (callFunc 27 #[.float .f64 q]).run Try.prog w = .ok (.value (.float .f64 r)) w) (hf : Falls r (floatOfInt .f64 n) n m) (w : World) :
    Calls Try.prog 10 #[scv L S n, .float .f64 x] w fun e w' => e = .returned (.tuple #[.int .u32 m, .int .i64 0]) ∧ Below w.heap.size w w' := by
  have i1 := isnan_no x hx
  have m1 := run_dif h1
  have m2 := run_quo h2
  replace hch := Lib.hid hch
  replace i1 := Lib.hid i1
  clear hx h1 h2
  rcases hf with ⟨f1, rfl⟩ | ⟨f1, f2, rfl⟩ | ⟨f1, f2, f3⟩
  · have o1 : (FloatKind.f64.format.order r 0 == some .lt) = true := beq_iff_eq.2 f1
    clear f1
    go_enter Try.func10, Try.ntmps10
    go_upto_region 1 with (fail)
    refine name_wp (fun w1 => Below w.heap.size w w1 ∧ w1.heap[w.heap.size]? = some (.cells #[.float .f64 L, .float .f64 S, .int .u32 n] 29 (0, 0))) ⟨(Below.refl _ _).alloc (Nat.le_refl _) _, alloc_at rfl⟩ ?_
    rintro w1 ⟨hb, kx⟩
    obtain ⟨c0, c1, c2⟩ := blkS kx
    go_wp2_with fail
    refine call_then (hch.out _) ?_
    clear c0 c1 c2
    intro w2 hb2
    replace hb := below_next hb hb.size hb2
    replace kx := keeps hb2 kx
    clear hb2
    obtain ⟨c0, c1, c2⟩ := blkS kx
    go_wp2_with fail
    refine call_then (i1.out _) ?_
    clear c0 c1 c2
    intro w2 hb2
    replace hb := below_next hb hb.size hb2
    replace kx := keeps hb2 kx
    clear hb2
    obtain ⟨c0, c1, c2⟩ := blkS kx
    go_wp2
    exact bodyPost_ret (v := .tuple #[.int .u32 0, .int .i64 0]) (by simp [results, Try.results10, go_sem]) rfl ⟨rfl, hb⟩
  · have o1 : (FloatKind.f64.format.order r 0 == some .lt) = false := beq_eq_false_iff_ne.2 f1
    have o2 : (FloatKind.f64.format.order r (floatOfInt .f64 m) == some .gt) = true := beq_iff_eq.2 f2
    clear f1 f2
    go_enter Try.func10, Try.ntmps10
    go_upto_region 1 with (fail)
    refine name_wp (fun w1 => Below w.heap.size w w1 ∧ w1.heap[w.heap.size]? = some (.cells #[.float .f64 L, .float .f64 S, .int .u32 m] 29 (0, 0))) ⟨(Below.refl _ _).alloc (Nat.le_refl _) _, alloc_at rfl⟩ ?_
    rintro w1 ⟨hb, kx⟩
    obtain ⟨c0, c1, c2⟩ := blkS kx
    go_wp2_with fail
    refine call_then (hch.out _) ?_
    clear c0 c1 c2
    intro w2 hb2
    replace hb := below_next hb hb.size hb2
    replace kx := keeps hb2 kx
    clear hb2
    obtain ⟨c0, c1, c2⟩ := blkS kx
    go_wp2_with fail
    refine call_then (i1.out _) ?_
    clear c0 c1 c2
    intro w2 hb2
    replace hb := below_next hb hb.size hb2
    replace kx := keeps hb2 kx
    clear hb2
    obtain ⟨c0, c1, c2⟩ := blkS kx
    go_wp2
    exact bodyPost_ret (v := .tuple #[.int .u32 m, .int .i64 0]) (by simp [results, Try.results10, go_sem]) rfl ⟨rfl, hb⟩
  · have o1 : (FloatKind.f64.format.order r 0 == some .lt) = false := beq_eq_false_iff_ne.2 f1
    have o2 : (FloatKind.f64.format.order r (floatOfInt .f64 n) == some .gt) = false := beq_eq_false_iff_ne.2 f2
    have cv := fun w => run_convert_float_int (P := Try.prog) w 27 25 .f64 .u32 r m (by rw [Try.underlying27]; rfl) Try.underlying25 f3
    clear f1 f2 f3
    go_enter Try.func10, Try.ntmps10
    go_upto_region 1 with (fail)
    refine name_wp (fun w1 => Below w.heap.size w w1 ∧ w1.heap[w.heap.size]? = some (.cells #[.float .f64 L, .float .f64 S, .int .u32 n] 29 (0, 0))) ⟨(Below.refl _ _).alloc (Nat.le_refl _) _, alloc_at rfl⟩ ?_
    rintro w1 ⟨hb, kx⟩
    obtain ⟨c0, c1, c2⟩ := blkS kx
    go_wp2_with fail
    refine call_then (hch.out _) ?_
    clear c0 c1 c2
    intro w2 hb2
    replace hb := below_next hb hb.size hb2
    replace kx := keeps hb2 kx
    clear hb2
    obtain ⟨c0, c1, c2⟩ := blkS kx
    go_wp2_with fail
    refine call_then (i1.out _) ?_
    clear c0 c1 c2
    intro w2 hb2
    replace hb := below_next hb hb.size hb2
    replace kx := keeps hb2 kx
    clear hb2
    obtain ⟨c0, c1, c2⟩ := blkS kx
    go_wp2
    exact bodyPost_ret (v := .tuple #[.int .u32 m, .int .i64 0]) (by simp [results, Try.results10, go_sem]) rfl ⟨rfl, hb⟩
end Go.Proofs.Ytgmmdhefcijgeaa
