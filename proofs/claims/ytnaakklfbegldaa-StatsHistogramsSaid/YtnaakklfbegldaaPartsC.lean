/-
  The number below which there is such a share: what the program answers.
-/
import Derived.Test.YtnaakklfbegldaaPartsMath
import Derived.Test.YtnaakklfbegldaaStH
import Derived.Test.YtnaakklfbegldaaStL
import Derived.Test.YtnaakklfbegldaaSegR
import Derived.Laws.FloatArith
import Derived.BigQuiet
import Derived.Deep.QuietTactic
namespace Go.Proofs.Ytnaakklfbegldaa
open Go.RowKit Flow
set_option linter.unusedVariables false
set_option linter.unusedSimpArgs false
attribute [local go_sem] bits_run from_run

theorem run_mul {x y z : Nat} (h : mulF x y = some z) (w : World) : (binOp .mul 35 (.float .f64 x) (.float .f64 y)).run Try.prog w = .ok (.float .f64 z) w := run_float_arith (P := Try.prog) w .mul 35 .f64 x y z h
theorem run_add {x y z : Nat} (h : addF x y = some z) (w : World) : (binOp .add 35 (.float .f64 x) (.float .f64 y)).run Try.prog w = .ok (.float .f64 z) w := run_float_arith (P := Try.prog) w .add 35 .f64 x y z h
theorem run_dif {x y z : Nat} (h : subF x y = some z) (w : World) : (binOp .sub 35 (.float .f64 x) (.float .f64 y)).run Try.prog w = .ok (.float .f64 z) w := run_float_arith (P := Try.prog) w .sub 35 .f64 x y z h
theorem run_quo {x y z : Nat} (h : quoF x y = some z) (w : World) : (binOp .quo 35 (.float .f64 x) (.float .f64 y)).run Try.prog w = .ok (.float .f64 z) w := run_float_arith (P := Try.prog) w .quo 35 .f64 x y z h
theorem toIntegral_number {name : String} {way : Ieee.Toward} {q : Nat} {s : Bool} {m : Nat} {e : Int} (h : FloatKind.f64.decode q = .number s m e) : Extern.MathFloor.toIntegral name way #[.float .f64 q] = pure (.float .f64 (FloatKind.f64.encode (Ieee.Datum.integral way (.number s m e)))) := by
  conv => lhs; whnf
  rw [h]
theorem toIntegral_infinity {name : String} {way : Ieee.Toward} {q : Nat} {s : Bool} (h : FloatKind.f64.decode q = .infinity s) : Extern.MathFloor.toIntegral name way #[.float .f64 q] = pure (.float .f64 (FloatKind.f64.encode (Ieee.Datum.integral way (.infinity s)))) := by
  conv => lhs; whnf
  rw [h]
theorem arch_run (q : Nat) (w : World) (hq : ∀ s t, FloatKind.f64.decode q ≠ .nan s t) : (callFunc 48 #[.float .f64 q]).run Try.prog w = .ok (.value (.float .f64 (FloatKind.f64.encode ((FloatKind.f64.decode q).integral .down)))) w := by
  rw [run_callFunc_extern Try.func48 (by kernel_rfl) (by kernel_rfl) (by kernel_rfl) (e := Extern.MathFloor.toIntegral "math.archFloor" .down) (by kernel_rfl)]
  cases hd : FloatKind.f64.decode q with
  | nan s t => exact absurd hd (hq s t)
  | infinity s => rw [toIntegral_infinity hd]; rfl
  | number s m e => rw [toIntegral_number hd]; rfl
theorem floor_any {q f : Nat} (hq : ∀ s t, FloatKind.f64.decode q ≠ .nan s t) (hf : FloatKind.f64.encode ((FloatKind.f64.decode q).integral .down) = f) (w : World) : Calls Try.prog 38 #[.float .f64 q] w fun e w' => e = .returned (.float .f64 f) ∧ Below w.heap.size w w' := by
  have h := fun w => arch_run q w hq
  rw [hf] at h
  clear hq hf
  go_enter Try.func38, Try.ntmps38
  go_wp2
  go_ret
  exact ⟨rfl, Below.refl _ _⟩
theorem isinf_any {x : Nat} (hl : x < 18446744073709551616) (w : World) : Calls Try.prog 36 #[.float .f64 x, .int .i64 0] w fun e w' => e = .returned (.bool (isinfF x)) ∧ Below w.heap.size w w' := by
  have h2 := abs_any x hl
  unfold isinfF
  generalize x % 9223372036854775808 = y at *
  replace h2 := Lib.hid h2
  go_enter Try.func36, Try.ntmps36
  go_wp2_with fail
  refine call_then (h2.out _) ?_
  intro w2 hb
  go_wp2
  go_ret
  exact ⟨rfl, hb⟩
theorem isnan_is {x : Nat} {b : Bool} (h : isNan x = b) (w : World) : Calls Try.prog 33 #[.float .f64 x] w fun e w' => e = .returned (.bool b) ∧ Below w.heap.size w w' := by
  subst h; exact isnan_any x w
theorem isinf_is {x : Nat} {b : Bool} (hl : x < 18446744073709551616) (h : isinfF x = b) (w : World) : Calls Try.prog 36 #[.float .f64 x, .int .i64 0] w fun e w' => e = .returned (.bool b) ∧ Below w.heap.size w w' := by
  subst h; exact isinf_any hl w
def partR (v : Nat) (c : Int) : Value := .tuple #[.float .f64 v, .int .i64 c]
theorem part_nan (A : Option Addr) (n c p : Nat) (hp : isNan p = true) (w : World) : Calls Try.prog 22 #[.slice A n c, .float .f64 p] w fun e w' => e = .returned (partR 0 28) ∧ Below w.heap.size w w' := by
  have h := isnan_is hp
  replace h := Lib.hid h
  clear hp
  go_enter Try.func22, Try.ntmps22
  go_wp2_with fail
  refine call_then (h.out _) ?_
  intro w2 hb
  go_wp2
  exact bodyPost_ret (v := partR 0 28) (by simp [results, Try.results22, go_sem, partR]) rfl ⟨rfl, hb⟩
theorem part_out (A : Option Addr) (n c p : Nat) (hp : isNan p = false) (ho : od p 0 = some .lt ∨ (od p 0 ≠ some .lt ∧ od p 4607182418800017408 = some .gt)) (w : World) : Calls Try.prog 22 #[.slice A n c, .float .f64 p] w fun e w' => e = .returned (partR 0 6) ∧ Below w.heap.size w w' := by
  have h := isnan_is hp
  replace h := Lib.hid h
  clear hp
  rcases ho with ho | ⟨h1, h2⟩
  · have o1 : (FloatKind.f64.format.order p 0 == some .lt) = true := beq_iff_eq.2 ho
    clear ho
    go_enter Try.func22, Try.ntmps22
    go_wp2_with fail
    refine call_then (h.out _) ?_
    intro w2 hb
    go_wp2
    exact bodyPost_ret (v := partR 0 6) (by simp [results, Try.results22, go_sem, partR]) rfl ⟨rfl, hb⟩
  · have o1 : (FloatKind.f64.format.order p 0 == some .lt) = false := beq_eq_false_iff_ne.2 h1
    have o2 : (FloatKind.f64.format.order p 4607182418800017408 == some .gt) = true := beq_iff_eq.2 h2
    clear h1 h2
    go_enter Try.func22, Try.ntmps22
    go_wp2_with fail
    refine call_then (h.out _) ?_
    intro w2 hb
    go_wp2
    exact bodyPost_ret (v := partR 0 6) (by simp [results, Try.results22, go_sem, partR]) rfl ⟨rfl, hb⟩
theorem part_none (A : Option Addr) (c : Nat) (l : List Nat) (hl : l.length ≤ 1000) (p : Nat) (hp : isNan p = false) (h1 : od p 0 ≠ some .lt) (h2 : od p 4607182418800017408 ≠ some .gt) (w : World) (hA : FloatsAt w A l) (hz : nums l = []) :
    Calls Try.prog 22 #[.slice A l.length c, .float .f64 p] w fun e w' => e = .returned (partR 9221120237041090561 0) ∧ Below w.heap.size w w' := by
  have h := isnan_is hp
  have o1 : (FloatKind.f64.format.order p 0 == some .lt) = false := beq_eq_false_iff_ne.2 h1
  have o2 : (FloatKind.f64.format.order p 4607182418800017408 == some .gt) = false := beq_eq_false_iff_ne.2 h2
  have l0 : ¬ (4096 : Int) < (l.length : Int) := by omega
  replace h := Lib.hid h
  clear hp h1 h2
  replace hA := Lib.hid hA
  replace hz := Lib.hid hz
  go_enter Try.func22, Try.ntmps22
  go_wp2_with fail
  refine call_then (h.out _) ?_
  intro w2 hb
  go_wp2_with fail
  refine (sorted_any A c l (by omega) _ (hA.out.up hb)).mono ?_
  rintro e w3 ⟨g, cap, ys, rfl, hb3, hperm, hsorted, hys⟩
  replace hb := below_next hb hb.size hb3
  clear hb3
  rw [hz.out] at hperm
  obtain rfl := hperm.eq_nil
  clear hsorted hys hperm
  go_wp2_with fail
  refine call_then (nan_any _) ?_
  intro w4 hb2
  replace hb := below_next hb hb.size hb2
  go_wp2
  exact bodyPost_ret (v := partR 9221120237041090561 0) (by simp [results, Try.results22, go_sem, partR]) rfl ⟨rfl, hb⟩
set_option maxRecDepth 20000 in
set_option maxHeartbeats 20000000 in
theorem part_in (A : Option Addr) (c : Nat) (l : List Nat) (hl : l.length ≤ 1000) (p v : Nat) (hp : isNan p = false) (h1 : od p 0 ≠ some .lt) (h2 : od p 4607182418800017408 ≠ some .gt) (zs : List Num) (huniq : ∀ ys : List Num, ys.Perm (nums l) → Ascends ys → ys = zs) (hzl : zs.length ≤ 1000) (hV : PartV zs p v) (w : World) (hA : FloatsAt w A l) :
    Calls Try.prog 22 #[.slice A l.length c, .float .f64 p] w fun e w' => e = .returned (partR v 0) ∧ Below w.heap.size w w' := by
  have h := isnan_is hp
  have o1 : (FloatKind.f64.format.order p 0 == some .lt) = false := beq_eq_false_iff_ne.2 h1
  have o2 : (FloatKind.f64.format.order p 4607182418800017408 == some .gt) = false := beq_eq_false_iff_ne.2 h2
  have l0 : ¬ (4096 : Int) < (l.length : Int) := by omega
  replace h := Lib.hid h
  clear hp h1 h2
  replace hA := Lib.hid hA
  replace hV := Lib.hid hV
  replace huniq := Lib.hid huniq
  go_enter Try.func22, Try.ntmps22
  go_wp2_with fail
  refine call_then (h.out _) ?_
  intro w2 hb
  go_wp2_with fail
  refine (sorted_any A c l (by omega) _ (hA.out.up hb)).mono ?_
  rintro e w3 ⟨g, cap, ys, rfl, hb3, hperm, hsorted, hys⟩
  replace hb := below_next hb hb.size hb3
  clear hb3
  obtain rfl := huniq.out ys hperm hsorted
  clear hperm hsorted huniq hA l0 o1 o2 h
  cases hV.out with
  | here n1 pc fl i hn hp hor hv =>
    clear hV
    have hlen : ys.length = n1 + 1 := hn
    have e1 : (ys.length : Int) - 1 = (n1 : Int) := by omega
    have ez : ¬ (ys.length : Int) = 0 := by omega
    have m1 := run_mul hp.mul
    have hfl := floor_any hp.num hp.floor
    have cv := fun w => run_convert_float_int (P := Try.prog) w 35 3 .f64 .i64 fl i (by rw [Try.underlying35]; rfl) Try.underlying3 hp.toInt
    have es := hp.same
    have hle := hp.le
    have i0 : (0 : Int) ≤ (i : Int) := by omega
    have i1 : (i : Int) < (ys.length : Int) := by omega
    have i2 : (ys.length : Int) ≤ 1000 := by omega
    replace hfl := Lib.hid hfl
    have t0 := hys i (by omega)
    generalize hxe : (ys.getD i default).1 = x at *
    subst hv
    clear hys hxe
    by_cases hr : rest pc = 0
    · rw [decide_eq_true hr] at es
      have es' : (FloatKind.f64.format.order pc fl == some .eq) = true := es
      clear es hr hor hp hn hlen hle
      go_wp2_with fail
      refine call_then (hfl.out _) ?_
      intro w4 hb2
      replace hb := below_next hb hb.size hb2
      replace t0 := (hb2.cell (cell_lt t0)).trans t0
      clear hb2
      go_wp2
      exact bodyPost_ret (v := partR v 0) (by simp [results, Try.results22, go_sem, partR]) rfl ⟨rfl, hb⟩
    · have hin : i = n1 := hor.resolve_left hr
      rw [decide_eq_false hr] at es
      have es' : (FloatKind.f64.format.order pc fl == some .eq) = false := es
      have ge : (ys.length : Int) ≤ (i : Int) + 1 := by omega
      clear es hr hor hp hn hlen hle hin
      go_wp2_with fail
      refine call_then (hfl.out _) ?_
      intro w4 hb2
      replace hb := below_next hb hb.size hb2
      replace t0 := (hb2.cell (cell_lt t0)).trans t0
      clear hb2
      go_wp2
      exact bodyPost_ret (v := partR v 0) (by simp [results, Try.results22, go_sem, partR]) rfl ⟨rfl, hb⟩
  | stop n1 pc fl i hn hp hr hi hd hv =>
    clear hV
    have hlen : ys.length = n1 + 1 := hn
    have e1 : (ys.length : Int) - 1 = (n1 : Int) := by omega
    have ez : ¬ (ys.length : Int) = 0 := by omega
    have m1 := run_mul hp.mul
    have hfl := floor_any hp.num hp.floor
    have cv := fun w => run_convert_float_int (P := Try.prog) w 35 3 .f64 .i64 fl i (by rw [Try.underlying35]; rfl) Try.underlying3 hp.toInt
    have es := hp.same
    have hle := hp.le
    have i0 : (0 : Int) ≤ (i : Int) := by omega
    have i1 : (i : Int) < (ys.length : Int) := by omega
    have i2 : (ys.length : Int) ≤ 1000 := by omega
    replace hfl := Lib.hid hfl
    have t0 := hys i (by omega)
    generalize hxe : (ys.getD i default).1 = x at *
    subst hv
    rw [decide_eq_false hr] at es
    have es' : (FloatKind.f64.format.order pc fl == some .eq) = false := es
    have ge : ¬ (ys.length : Int) ≤ (i : Int) + 1 := by omega
    have i3 : (i : Int) + 1 < (ys.length : Int) := by omega
    have t1 := hys (i + 1) (by omega)
    generalize (ys.getD (i + 1) default).1 = y at *
    replace hd := Lib.hid hd
    clear es hr hp hn hlen hle hi hys hxe
    go_wp2_with fail
    refine call_then (hfl.out _) ?_
    intro w4 hb2
    replace hb := below_next hb hb.size hb2
    replace t0 := (hb2.cell (cell_lt t0)).trans t0
    replace t1 := (hb2.cell (cell_lt t1)).trans t1
    clear hb2 hfl
    go_wp2
    refine seg_start 11 (by kernel_rfl) (by decide) ?_
    intro v0 hv0
    replace hb := below_next hb hb.size hv0
    replace t0 := ((hv0).cell (cell_lt t0)).trans t0
    replace t1 := ((hv0).cell (cell_lt t1)).trans t1
    clear hv0
    refine seg_batch 2 [0, 1, 2, 3, 4, 5, 6, 7, 8] (by kernel_rfl) rfl (by kernel_rfl) (by kernel_rfl) (by kernel_rfl) ?_
    apply Exists.intro
    refine ⟨fun ι _ φ hφ => ?_, fun v1 hv1 => ?_⟩
    · have f0 := fun i => ((hφ.old i).cell (cell_lt t0)).trans t0
      have f1 := fun i => ((hφ.old i).cell (cell_lt t1)).trans t1
      repeat (refine pick_step rfl ?_; go_big_quiet_step (fail))
      exact pick_end
    replace hb := below_next hb hb.size hv1
    replace t0 := ((hv1).cell (cell_lt t0)).trans t0
    replace t1 := ((hv1).cell (cell_lt t1)).trans t1
    clear hv1
    refine seg_one 9 _ (by decide) rfl (by kernel_rfl) ?_
    intro v2 K hv2 hK
    replace hb := below_next hb hb.size hv2
    replace t0 := ((hv2).cell (cell_lt t0)).trans t0
    replace t1 := ((hv2).cell (cell_lt t1)).trans t1
    obtain ⟨r, w5, hrun, hb5, hst⟩ := run_sub y v v2
    have hdr := hd.out r hst
    have hrl := hst.lt
    replace hK := Lib.hid hK
    go_simp
    refine hK.out _ _ hb5 ?_
    clear hK K hrun hst
    replace hb := below_next hb hb.size hb5
    replace t0 := ((hb5).cell (cell_lt t0)).trans t0
    replace t1 := ((hb5).cell (cell_lt t1)).trans t1
    refine seg_batch 0 [10] (by kernel_rfl) rfl (by kernel_rfl) (by kernel_rfl) (by kernel_rfl) ?_
    apply Exists.intro
    refine ⟨fun ι _ φ hφ => ?_, fun v7 hv7 => ?_⟩
    · repeat (refine pick_step rfl ?_; go_big_quiet_step (fail))
      exact pick_end
    replace hb := below_next hb hb.size hv7
    replace t0 := ((hv7).cell (cell_lt t0)).trans t0
    replace t1 := ((hv7).cell (cell_lt t1)).trans t1
    clear hv7
    refine seg_done rfl (by kernel_rfl) ?_
    intro v8 hv8
    replace hb := below_next hb hb.size hv8
    replace t0 := ((hv8).cell (cell_lt t0)).trans t0
    replace t1 := ((hv8).cell (cell_lt t1)).trans t1
    clear hv8
    have hI := fun b => isinf_is (b := b) hrl
    have hN := fun b => isnan_is (x := r) (b := b)
    obtain ⟨hprog, _⟩ := hdr
    replace hI := Lib.hid hI
    replace hN := Lib.hid hN
    replace hd := True.intro
    rcases hprog with q1 | ⟨q1, q2⟩
    · have q1' : (FloatKind.f64.format.order r 0 == some .eq) = true := q1
      clear q1
      go_wp2
      exact bodyPost_ret (v := partR v 0) (by simp [results, Try.results22, go_sem, partR]) rfl ⟨rfl, hb⟩
    · have q1' : (FloatKind.f64.format.order r 0 == some .eq) = false := q1
      clear q1
      rcases q2 with q2 | ⟨q2, q3⟩
      · go_wp2_with fail
        refine call_then (hI.out _ q2 _) ?_
        intro w4 hb2
        replace hb := below_next hb hb.size hb2
        replace t0 := (hb2.cell (cell_lt t0)).trans t0
        clear hb2
        go_wp2
        exact bodyPost_ret (v := partR v 0) (by simp [results, Try.results22, go_sem, partR]) rfl ⟨rfl, hb⟩
      · go_wp2_with fail
        refine call_then (hI.out _ q2 _) ?_
        intro w4 hb2
        replace hb := below_next hb hb.size hb2
        replace t0 := (hb2.cell (cell_lt t0)).trans t0
        clear hb2
        go_wp2_with fail
        refine call_then (hN.out _ q3 _) ?_
        rename_i w4'
        clear q2 q3
        intro w6 hb2
        replace hb := below_next hb hb.size hb2
        replace t0 := (hb2.cell (cell_lt t0)).trans t0
        clear hb2
        go_wp2
        exact bodyPost_ret (v := partR v 0) (by simp [results, Try.results22, go_sem, partR]) rfl ⟨rfl, hb⟩
  | between n1 pc fl i d u m hn hp hr hi hd hg hu hm hv =>
    clear hV
    have hlen : ys.length = n1 + 1 := hn
    have e1 : (ys.length : Int) - 1 = (n1 : Int) := by omega
    have ez : ¬ (ys.length : Int) = 0 := by omega
    have m1 := run_mul hp.mul
    have hfl := floor_any hp.num hp.floor
    have cv := fun w => run_convert_float_int (P := Try.prog) w 35 3 .f64 .i64 fl i (by rw [Try.underlying35]; rfl) Try.underlying3 hp.toInt
    have es := hp.same
    have hle := hp.le
    have i0 : (0 : Int) ≤ (i : Int) := by omega
    have i1 : (i : Int) < (ys.length : Int) := by omega
    have i2 : (ys.length : Int) ≤ 1000 := by omega
    replace hfl := Lib.hid hfl
    have t0 := hys i (by omega)
    generalize hxe : (ys.getD i default).1 = x at *
    rw [decide_eq_false hr] at es
    have es' : (FloatKind.f64.format.order pc fl == some .eq) = false := es
    have ge : ¬ (ys.length : Int) ≤ (i : Int) + 1 := by omega
    have i3 : (i : Int) + 1 < (ys.length : Int) := by omega
    have t1 := hys (i + 1) (by omega)
    generalize (ys.getD (i + 1) default).1 = y at *
    have m2 := run_dif hd
    have m3 := run_dif hu
    have m4 := run_mul hm
    have m5 := run_add hv
    have q1 : (FloatKind.f64.format.order d 0 == some .eq) = false := hg.ne
    have hI := isinf_is (sub_small hd) hg.inf
    have hN := isnan_is hg.nan
    replace hI := Lib.hid hI
    replace hN := Lib.hid hN
    clear es hr hp hn hlen hle hi hys hxe hd hg hu hm hv
    go_wp2_with fail
    refine call_then (hfl.out _) ?_
    intro w4 hb2
    replace hb := below_next hb hb.size hb2
    replace t0 := (hb2.cell (cell_lt t0)).trans t0
    replace t1 := (hb2.cell (cell_lt t1)).trans t1
    clear hb2 hfl
    go_wp2
    refine seg_start 11 (by kernel_rfl) (by decide) ?_
    intro v0 hv0
    replace hb := below_next hb hb.size hv0
    replace t0 := ((hv0).cell (cell_lt t0)).trans t0
    replace t1 := ((hv0).cell (cell_lt t1)).trans t1
    clear hv0
    refine seg_batch 0 [0, 1, 2, 3, 4, 5, 6, 7, 8, 9, 10] (by kernel_rfl) rfl (by kernel_rfl) (by kernel_rfl) (by kernel_rfl) ?_
    apply Exists.intro
    refine ⟨fun ι _ φ hφ => ?_, fun v1 hv1 => ?_⟩
    · have f0 := fun i => ((hφ.old i).cell (cell_lt t0)).trans t0
      have f1 := fun i => ((hφ.old i).cell (cell_lt t1)).trans t1
      repeat (refine pick_step rfl ?_; go_big_quiet_step (fail))
      exact pick_end
    replace hb := below_next hb hb.size hv1
    replace t0 := ((hv1).cell (cell_lt t0)).trans t0
    replace t1 := ((hv1).cell (cell_lt t1)).trans t1
    clear hv1
    refine seg_done rfl (by kernel_rfl) ?_
    intro v8 hv8
    replace hb := below_next hb hb.size hv8
    replace t0 := ((hv8).cell (cell_lt t0)).trans t0
    replace t1 := ((hv8).cell (cell_lt t1)).trans t1
    clear hv8
    go_wp2_with fail
    refine call_then (hI.out _) ?_
    intro w4 hb2
    replace hb := below_next hb hb.size hb2
    replace t0 := (hb2.cell (cell_lt t0)).trans t0
    clear hb2
    go_wp2_with fail
    refine call_then (hN.out _) ?_
    intro w6 hb2
    replace hb := below_next hb hb.size hb2
    replace t0 := (hb2.cell (cell_lt t0)).trans t0
    clear hb2
    go_wp2
    exact bodyPost_ret (v := partR v 0) (by simp [results, Try.results22, go_sem, partR]) rfl ⟨rfl, hb⟩
end Go.Proofs.Ytnaakklfbegldaa
