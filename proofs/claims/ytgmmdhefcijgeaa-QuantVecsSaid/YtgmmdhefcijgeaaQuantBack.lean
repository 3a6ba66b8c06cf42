/-
  QuantBack, QuantNear, proved: a step's number is of that step; a number within the ends is no further than half a step from its step's number: for any scale of small numbers, any step, any number, with no condition.
-/
import Derived.Test.YtgmmdhefcijgeaaQuantC
import Derived.Test.YtgmmdhefcijgeaaFrame
import Derived.Test.YtgmmdhefcijgeaaPost
import Derived.Test.YtgmmdhefcijgeaaSeg
import Derived.Lib.SmallJoins
import Derived.BigQuiet
import Derived.Deep.QuietTactic
import Derived.Deep.DeepCutAuto
import Derived.Deep.CutBlock
namespace Go.Proofs.Ytgmmdhefcijgeaa
open Go.RowKit Go.WideShapes Go.ChangeShapes Flow
set_option linter.unusedVariables false
set_option linter.unusedSimpArgs false
attribute [local go_sem] bits_run from_run

theorem read_pinf : Ieee.double.read 9218868437227405312 = .infinity false := by decide +kernel
theorem read_ninf : Ieee.double.read 18442240474082181120 = .infinity true := by decide +kernel
theorem sub_pinf {L : Nat} (h : fin L) : subF 9218868437227405312 L = some 9218868437227405312 := by
  show ((Ieee.double.read 9218868437227405312).sum (Ieee.double.read L).opposite).map Ieee.double.write = _
  rw [read_pinf, read_finite L h]
  show some (Ieee.double.write (.infinity false)) = _
  decide +kernel
theorem quo_pinf {S : Nat} (h : fin S) (hs : sg S = false) : quoF 9218868437227405312 S = some 9218868437227405312 := by
  show ((Ieee.double.read 9218868437227405312).quotient (52 + 2) (Ieee.double.read S)).map Ieee.double.write = _
  rw [read_pinf, read_finite S h]
  show some (Ieee.double.write (.infinity (false ^^ sg S))) = _
  rw [hs]
  decide +kernel
theorem round_pinf (w : World) : (callFunc 27 #[.float .f64 9218868437227405312]).run Try.prog w = .ok (.value (.float .f64 9218868437227405312)) w := by
  have hd : FloatKind.f64.decode 9218868437227405312 = .infinity false := read_pinf
  have h := round_ext 9218868437227405312 w (fun s t e => by rw [hd] at e; cases e)
  rw [hd] at h
  have e : FloatKind.f64.encode (Ieee.Datum.integral .even (.infinity false)) = 9218868437227405312 := by decide +kernel
  rw [e] at h
  exact h
theorem nan_pinf : isNan 9218868437227405312 = false := by decide +kernel
theorem sub_ninf {L : Nat} (h : fin L) : subF 18442240474082181120 L = some 18442240474082181120 := by
  show ((Ieee.double.read 18442240474082181120).sum (Ieee.double.read L).opposite).map Ieee.double.write = _
  rw [read_ninf, read_finite L h]
  show some (Ieee.double.write (.infinity true)) = _
  decide +kernel
theorem quo_ninf {S : Nat} (h : fin S) (hs : sg S = false) : quoF 18442240474082181120 S = some 18442240474082181120 := by
  show ((Ieee.double.read 18442240474082181120).quotient (52 + 2) (Ieee.double.read S)).map Ieee.double.write = _
  rw [read_ninf, read_finite S h]
  show some (Ieee.double.write (.infinity (true ^^ sg S))) = _
  rw [hs]
  decide +kernel
theorem round_ninf (w : World) : (callFunc 27 #[.float .f64 18442240474082181120]).run Try.prog w = .ok (.value (.float .f64 18442240474082181120)) w := by
  have hd : FloatKind.f64.decode 18442240474082181120 = .infinity true := read_ninf
  have h := round_ext 18442240474082181120 w (fun s t e => by rw [hd] at e; cases e)
  rw [hd] at h
  have e : FloatKind.f64.encode (Ieee.Datum.integral .even (.infinity true)) = 18442240474082181120 := by decide +kernel
  rw [e] at h
  exact h
theorem nan_ninf : isNan 18442240474082181120 = false := by decide +kernel
theorem whole_pinf {L S : Nat} {n a s : Int} (h : Sc L S n a s) (w : World) : Calls Try.prog 10 #[scv L S n, .float .f64 9218868437227405312] w fun e w' => e = .returned (.tuple #[.int .u32 n, .int .i64 0]) ∧ Below w.heap.size w w' := by
  have hn := h.nn
  have dn := D_int n (by omega)
  refine whole_any (check_good h) nan_pinf (sub_pinf h.low.fin) (quo_pinf h.step.fin (h.step.pos (by have := h.ss; omega))) round_pinf (.inr (.inl ⟨by decide +kernel, ?_, rfl⟩)) w
  show (Ieee.double.read 9218868437227405312).order (Ieee.double.read (floatOfInt .f64 n)) = _
  rw [read_pinf, read_finite _ dn.fin]
  rfl
theorem whole_ninf {L S : Nat} {n a s : Int} (h : Sc L S n a s) (w : World) : Calls Try.prog 10 #[scv L S n, .float .f64 18442240474082181120] w fun e w' => e = .returned (.tuple #[.int .u32 0, .int .i64 0]) ∧ Below w.heap.size w w' :=
  whole_any (check_good h) nan_ninf (sub_ninf h.low.fin) (quo_ninf h.step.fin (h.step.pos (by have := h.ss; omega))) round_ninf (.inl ⟨by decide +kernel, rfl⟩) w
/-- A whole number of steps, rounded, falls where it is. -/
theorem falls_D {r : Nat} {n m : Int} (hr : D r (m * 4096)) (hn : 1 ≤ n ∧ n ≤ 65536) (hm : 0 ≤ m ∧ m ≤ n) : Falls r (floatOfInt .f64 n) n m := by
  have dn := D_int n (by omega)
  refine .inr (.inr ⟨?_, ?_, D_toInt hr (by show (0 : Int) ≤ m; omega) (by show m ≤ 4294967295; omega)⟩)
  · rw [D_order hr D_zero]
    intro e
    have := Int.compare_eq_lt.1 (Option.some.inj e)
    omega
  · rw [D_order hr dn]
    intro e
    have := Int.compare_eq_gt.1 (Option.some.inj e)
    omega
theorem step_bounds {n s k : Int} (hs : 1 ≤ s ∧ s ≤ 64) (hk : 0 ≤ k ∧ k ≤ n) (hn : 1 ≤ n ∧ n ≤ 65536) : 0 ≤ s * 256 * k ∧ s * 256 * k ≤ 64 * 256 * 65536 := by
  have h1 : s * 256 * k ≤ s * 256 * 65536 := Int.mul_le_mul_of_nonneg_left (by omega) (by omega)
  exact ⟨Int.mul_nonneg (by omega) (by omega), by omega⟩
theorem whole_exact {L S z : Nat} {n a s k : Int} (h : Sc L S n a s) (hk : 0 ≤ k ∧ k ≤ n) (hz : D z (a + s * 256 * k)) (w : World) : Calls Try.prog 10 #[scv L S n, .float .f64 z] w fun e w' => e = .returned (.tuple #[.int .u32 k, .int .i64 0]) ∧ Below w.heap.size w w' := by
  have hn := h.nn
  have hs := h.ss
  obtain ⟨b1, b2⟩ := step_bounds hs hk hn
  obtain ⟨d, h1, dd⟩ := D_sub hz h.low (by omega)
  rw [show a + s * 256 * k - a = s * 256 * k by omega] at dd
  obtain ⟨q, h2, dq⟩ := D_quo (c := k * 4096) dd h.step (by omega) (by omega) (by rw [Int.mul_assoc k, Int.mul_comm k, Int.mul_comm 4096 (s * 256)]; simp only [Int.mul_assoc, Int.mul_left_comm, Int.mul_comm])
  obtain ⟨r, h3, dr⟩ := D_even dq (by omega)
  exact whole_any (check_good h) (nan_fin hz.fin) h1 h2 (fun w => by rw [round_ext q w (not_nan_fin dq.fin), h3]) (falls_D dr hn hk) w
set_option maxRecDepth 20000 in
set_option maxHeartbeats 20000000 in
theorem back_walk (a b c n0 : Int) (ha : -32768 ≤ a ∧ a < 32768) (hn0 : 0 ≤ n0 ∧ n0 < 4294967296) (w : World) :
    Calls Try.prog 3 #[.agg #[.int .i16 a, .int .i16 b, .int .i16 c], .int .u32 n0] w fun e w' => e = .returned (.bool true) ∧ Below w.heap.size w w' := by
  have hS := fun w => scale_any a b c ha w
  replace hS := Lib.hid hS
  have q0 : (0 : Int) ≤ n0 := hn0.1
  have q1 : n0 < 4294967296 := hn0.2
  have hb := (Below.refl w.heap.size w).alloc (Nat.le_refl _) (.cells #[.int .i16 a, .int .i16 b, .int .i16 c] 24 (0, 0))
  have kt := alloc_at (w := w) (k := w.heap.size) (o := .cells #[.int .i16 a, .int .i16 b, .int .i16 c] 24 (0, 0)) rfl
  go_enter Try.func3, Try.ntmps3
  go_upto_region 1 with (fail)
  refine name_wp (fun w1 => Below w.heap.size w w1 ∧ w1.heap[w.heap.size]? = some (.cells #[.int .i16 a, .int .i16 b, .int .i16 c] 24 (0, 0))) ⟨hb, kt⟩ ?_
  clear hb kt
  rintro w1 ⟨hb, kt⟩
  go_wp2_with fail
  refine call_then (quant_awake _) ?_
  intro w2 hb2
  replace hb := below_next hb hb.size hb2
  replace kt := keeps hb2 kt
  clear hb2
  obtain ⟨t0, t1, t2⟩ := blkS kt
  go_wp2_with fail
  refine (hS.out _).mono ?_
  rintro e w3 ⟨L, S, n, s, rfl, hsc, hb2⟩
  replace hb := below_next hb hb.size hb2
  clear hb2 kt t0 t1 t2
  have hn1 : 1 ≤ n := hsc.nn.1
  have hn2 : n ≤ 65536 := hsc.nn.2
  obtain ⟨k, hk⟩ : ∃ k, n0 % (n + 1) = k := ⟨_, rfl⟩
  have hk1 : 0 ≤ k ∧ k ≤ n := by
    rw [← hk]
    have h1 := Int.emod_nonneg n0 (show n + 1 ≠ 0 by omega)
    have h2 := Int.emod_lt_of_pos n0 (show 0 < n + 1 by omega)
    omega
  have hk' : n0.tmod (n + 1) = k := by rw [Int.tmod_eq_emod_of_nonneg q0]; exact hk
  obtain ⟨z, dz, hN⟩ := number_good hsc hk1
  have hW := whole_exact hsc hk1 dz
  have hP := whole_pinf hsc
  have hM := whole_ninf hsc
  have hne : ¬ n + 1 = 0 := by omega
  replace hN := Lib.hid hN
  replace hW := Lib.hid hW
  replace hP := Lib.hid hP
  replace hM := Lib.hid hM
  clear dz hsc hk1
  have hpz := hb.size
  have kz := alloc_at (w := w3) (k := w3.heap.size) (o := .cells #[.float .f64 0, .float .f64 0, .int .u32 0] 29 (0, 0)) rfl
  replace hb := hb.alloc hb.size (.cells #[.float .f64 0, .float .f64 0, .int .u32 0] 29 (0, 0))
  go_upto_region 4 with (first
    | (refine list_store_whole _ _ _ _ [.float .f64 L, .float .f64 S, .int .u32 n] [.float .f64 0, .float .f64 0, .int .u32 0] 29 rfl rfl rfl rfl kz rfl (by kernel_rfl) (one_sc _ _ _) ?_; intro w4 hbut kx; replace hb := hbut.below hb hpz hb.size))
  clear kz hbut
  generalize w3.heap.size = p at *
  obtain ⟨c0, c1, c2⟩ := blkS kx
  go_wp2_with fail
  refine call_then (hN.out _) ?_
  clear c0 c1 c2
  intro w2 hb2
  replace hb := below_next hb hb.size hb2
  replace kx := keeps hb2 kx
  clear hb2
  obtain ⟨c0, c1, c2⟩ := blkS kx
  go_wp2_with fail
  refine call_then (hW.out _) ?_
  clear c0 c1 c2
  intro w2 hb2
  replace hb := below_next hb hb.size hb2
  replace kx := keeps hb2 kx
  clear hb2
  obtain ⟨c0, c1, c2⟩ := blkS kx
  go_wp2
  refine seg_start 8 (by kernel_rfl) (by decide) ?_
  intro v0 hv0
  replace kx := keeps hv0 kx
  replace hb := below_next hb hb.size hv0
  clear hv0 c0 c1 c2
  refine seg_batch 0 [0, 1, 2, 3, 4, 5, 6, 7] (by kernel_rfl) rfl (by kernel_rfl) (by kernel_rfl) (by kernel_rfl) ?_
  apply Exists.intro
  refine ⟨fun ι _ φ hφ => ?_, fun v1 hv1 => ?_⟩
  · have c0 := fun i => (blkS (keeps (hφ.old i) kx)).1
    have c1 := fun i => (blkS (keeps (hφ.old i) kx)).2.1
    have c2 := fun i => (blkS (keeps (hφ.old i) kx)).2.2
    repeat (refine pick_step rfl ?_; go_big_quiet_step ((first | (go_at_call 11; exact flow_call hφ (inf_neg _)) | (go_at_call 10; exact flow_call hφ (hM.out _)))))
    exact pick_end
  replace kx := keeps hv1 kx
  replace hb := below_next hb hb.size hv1
  clear hv1
  refine seg_done rfl (by kernel_rfl) ?_
  intro v2 hv2
  replace kx := keeps hv2 kx
  replace hb := below_next hb hb.size hv2
  clear hv2
  go_wp2
  refine seg_start 8 (by kernel_rfl) (by decide) ?_
  intro v0 hv0
  replace kx := keeps hv0 kx
  replace hb := below_next hb hb.size hv0
  clear hv0
  refine seg_batch 0 [0, 1, 2, 3, 4, 5, 6, 7] (by kernel_rfl) rfl (by kernel_rfl) (by kernel_rfl) (by kernel_rfl) ?_
  apply Exists.intro
  refine ⟨fun ι _ φ hφ => ?_, fun v1 hv1 => ?_⟩
  · have c0 := fun i => (blkS (keeps (hφ.old i) kx)).1
    have c1 := fun i => (blkS (keeps (hφ.old i) kx)).2.1
    have c2 := fun i => (blkS (keeps (hφ.old i) kx)).2.2
    repeat (refine pick_step rfl ?_; go_big_quiet_step ((first | (go_at_call 11; exact flow_call hφ (inf_pos _)) | (go_at_call 10; exact flow_call hφ (hP.out _)))))
    exact pick_end
  replace kx := keeps hv1 kx
  replace hb := below_next hb hb.size hv1
  clear hv1
  refine seg_done rfl (by kernel_rfl) ?_
  intro v2 hv2
  replace kx := keeps hv2 kx
  replace hb := below_next hb hb.size hv2
  clear hv2
  obtain ⟨c0, c1, c2⟩ := blkS kx
  go_wp2
  go_ret
  exact ⟨rfl, hb⟩
theorem wf_i16 {a : Int} (h : (Lit.int .i16 a).wf = true) : -32768 ≤ a ∧ a < 32768 := by
  simp [Lit.wf, IntKind.min, IntKind.max, IntKind.signed, IntKind.bits] at h
  omega
theorem wf_u32 {a : Int} (h : (Lit.int .u32 a).wf = true) : 0 ≤ a ∧ a < 4294967296 := by
  simp [Lit.wf, IntKind.min, IntKind.max, IntKind.signed, IntKind.bits] at h
  omega
theorem open_small {H : Type} {enc : TypeId × Value → H} {w : World} {base : Nat} {spare : Nat → Bool} {held : Bool} {r : Reach} {b0 : Nat} {v : Value} {d : DataW H} {p : List MemPlace}
    (hv : Value.okWide Try.prog w r b0 24 v) (h : DataW.Trod enc Try.prog w base spare held 24 v d p) : ∃ a b c : Int, v = .agg #[.int .i16 a, .int .i16 b, .int .i16 c] ∧ -32768 ≤ a ∧ a < 32768 := by
  obtain ⟨v0, v1, v2, y0, y1, y2, n, rfl, _, _, g0, g1, g2⟩ := Joins.open_agg3 Try.underlying24 (by kernel_rfl) (by kernel_rfl) hv h
  obtain ⟨a, e0, _, wa⟩ := DataW.trod_int Try.underlying22 g0
  obtain ⟨b, e1, _, _⟩ := DataW.trod_int Try.underlying22 g1
  obtain ⟨c, e2, _, _⟩ := DataW.trod_int Try.underlying22 g2
  cases e0; cases e1; cases e2
  exact ⟨a, b, c, rfl, wf_i16 wa⟩
theorem own_quantBack : ownKnob Try.prog.godebug = none := by kernel_rfl
set_option maxRecDepth 100000 in
theorem lifted_quantBack (os : Os) (started : os.Started) (H : Type) (enc : TypeId × Value → H) :
    ReturnsInHanded {} Try.checked os 3 .any (Rows.quantBackSpec.pre6 enc Try.prog Try.f3 Rows.quantBackRow.domain false) (Rows.quantBackSpec.post enc Try.prog Try.f3 false true false false) := by
  refine returnsInHanded_of_change (C := Try.checked) own_quantBack started (by kernel_rfl) Try.func3
    (ChangeSpec.witness6 (enc := enc) (C := Try.checked) false ⟨#[], #[.agg #[.int .i16 0, .int .i16 0, .int .i16 0], .int .u32 0], []⟩ 8 (by kernel_rfl) (by kernel_rfl) (by kernel_rfl) (by kernel_rfl)) ?_
  intro W base args ds gs before hval0 hW hcnd _
  have hval : ∀ (j : Nat) t v, Try.f3.params[j]? = some t → args[j]? = some v → Value.okWide Try.prog W .any base t v := hval0
  have hW' := hW
  obtain ⟨p, q, hA0, hV, rfl, hfz, hnd⟩ := hW
  have hA : DataW.TrodAll enc Try.prog W 0 (fun _ => true) true Try.f3.params.toList args.toList ds p := hA0
  rw [Try.params3] at hA hval
  clear hA0 hval0
  obtain ⟨v0, vs0, d0, ds0, p0, q0, hargs, rfl, rfl, h0, r0⟩ := trodAll_cons hA
  obtain ⟨v1, vs1, d1, ds1, p1, q1, rfl, rfl, rfl, h1, r1⟩ := trodAll_cons r0
  obtain ⟨rfl, rfl, rfl⟩ := trodAll_nil r1
  obtain rfl : args = #[v0, v1] := by cases args; simp_all
  obtain ⟨rfl, rfl⟩ := trodVars_none hV
  obtain ⟨a, b, c, rfl, ha1, ha2⟩ := open_small (hval 0 24 v0 rfl rfl) h0
  obtain ⟨n0, rfl, _, _, wn⟩ := open_int Try.underlying25 (hval 1 25 v1 rfl rfl) h1
  refine (back_walk a b c n0 ⟨ha1, ha2⟩ (wf_u32 wn) W).mono fun e W' ⟨he, hb⟩ => ?_
  subst he
  exact ⟨_, rfl, law_true (by decide +kernel) rfl rfl Try.underlying4 hW' rfl hb⟩
theorem over_quantBack : Rows.quantBackRow.holds Try.pinned (OpenSpec.ofChange Rows.quantBackSpec) :=
  OpenClaim.holds_of_wide 3 Try.f3 rfl rfl rfl rfl rfl rfl rfl ⟨rfl, rfl, rfl, rfl, rfl⟩ rfl rfl rfl rfl rfl (by kernel_rfl) Try.func3 (by kernel_rfl)
    (of_decide_eq_true (by kernel_rfl)) (by unfold Func.isWrapper; first | (rw [if_pos (by decide +kernel)]; kernel_rfl) | (rw [if_neg (by decide +kernel)]; exact ⟨rfl, rfl⟩))
    (fun os started H enc _ => lifted_quantBack os started H enc)
theorem quantBack_proved : Rows.QuantBackSaid := over_quantBack
#print axioms quantBack_proved
end Go.Proofs.Ytgmmdhefcijgeaa
