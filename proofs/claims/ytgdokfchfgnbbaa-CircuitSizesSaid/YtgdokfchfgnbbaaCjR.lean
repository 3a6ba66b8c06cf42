/-
  How many elements a proof, a verifier has; CircuitSizes' walk.
-/
import Derived.Test.YtgdokfchfgnbbaaCjQ
namespace Go.Proofs.Ytgdokfchfgnbbaa
open Go.RowKit Flow F
set_option linter.unusedVariables false
set_option linter.unusedSimpArgs false
attribute [local go_sem] eql_elem

def Ci.proofN (x : Ci) : Nat := x.arityN + 2 * (pow2 (x.callsN + 1) - 1) + 1
theorem arityN_le {x : Ci} (h : x.Good) : x.arityN ≤ 32 := by
  unfold Ci.arityN
  have := h.fits.k1
  have := h.fits.c
  split
  · omega
  · split <;> omega
set_option maxHeartbeats 1000000 in
theorem proof_any (x : Ci) (h : x.Good) : NumBy 29 (cvl x) x.proofN := by
  intro w
  have hle := arityN_le h
  have hp := pow2_le (n := x.callsN + 1)
  have hG := Lib.hid (fun w => gadget_any x h w)
  have hAr := Lib.hid (fun (v : Value) (w : World) hv => garity_any x h (v := v) (w := w) hv)
  have hDe := Lib.hid (fun (v : Value) (w : World) hv => gdegree_any x (v := v) (w := w) hv)
  have hDo := Lib.hid (domain_any x h)
  have hR := Lib.hid (right_good h)
  unfold Ci.proofN
  generalize pow2 (x.callsN + 1) = D at *
  generalize x.arityN = R at *
  obtain ⟨k, f, b, l, W, c⟩ := x
  unfold cvl NumBy at *
  have z1 : IntKind.i64.wrap ((D : Int) - 1) = ((D - 1 : Nat) : Int) := wrap_i (by omega) (by omega)
  obtain ⟨T, hT⟩ : ∃ T, 2 * (D - 1) = T := ⟨_, rfl⟩
  obtain ⟨D1, hD1⟩ : ∃ D1, D - 1 = D1 := ⟨_, rfl⟩
  rw [hD1] at z1 hT
  have z1b : (D : Int) - 1 = (D1 : Int) := by omega
  have z2 : IntKind.i64.wrap (2 * (D1 : Int)) = (T : Int) := wrap_i (by omega) (by omega)
  have z2b : 2 * (D1 : Int) = (T : Int) := by omega
  obtain ⟨U, hU⟩ : ∃ U, R + T = U := ⟨_, rfl⟩
  have z3 : IntKind.i64.wrap ((R : Int) + (T : Int)) = (U : Int) := wrap_i (by omega) (by omega)
  have z3b : (R : Int) + (T : Int) = (U : Int) := by omega
  obtain ⟨V, hV⟩ : ∃ V, U + 1 = V := ⟨_, rfl⟩
  have z4 : IntKind.i64.wrap ((U : Int) + 1) = (V : Int) := wrap_i (by omega) (by omega)
  have z4b : (U : Int) + 1 = (V : Int) := by omega
  rw [hD1, hT, hU, hV]
  replace hT := Lib.hid hT
  replace hD1 := Lib.hid hD1
  replace hU := Lib.hid hU
  replace hV := Lib.hid hV
  clear h
  go_enter Try.func29, Try.ntmps29
  go_upto_region 1 with (fail)
  refine name_wp (fun w1 => Below w.heap.size w w1 ∧ w1.heap[w.heap.size]? = some (.cells #[.int .u8 k, .int .u8 f, .int .i64 b, .int .i64 l, .int .i64 W, .int .i64 c] 25 (0, 0))) ⟨(Below.refl _ _).alloc (Nat.le_refl _) _, alloc_at rfl⟩ ?_
  rintro w1 ⟨hb, k0⟩
  obtain ⟨c0, c1, c2, c3, c4, c5⟩ := blk6 k0
  go_wp2_with fail
  refine call_then (hR.out _) ?_
  intro w2 hb2
  replace hb := below_next hb hb.size hb2
  replace k0 := keeps hb2 k0
  clear hb2 c0 c1 c2 c3 c4 c5
  obtain ⟨c0, c1, c2, c3, c4, c5⟩ := blk6 k0
  go_wp2_with fail
  refine (hG.out _).mono ?_
  rintro e w2 ⟨a, gA, gn, gd, vc, rfl, hb2, hg⟩
  replace hb := below_next hb hb.size hb2
  replace k0 := keeps hb2 k0
  clear hb2 c0 c1 c2 c3 c4 c5
  have hbA := hb.alloc hb.size (.cells #[.int .u8 a, .slice gA gn gd, .int .i64 vc] 40)
  have k0A := alloc_keeps (o := .cells #[.int .u8 a, .slice gA gn gd, .int .i64 vc] 40) k0
  have k1A : (w2.alloc (.cells #[.int .u8 a, .slice gA gn gd, .int .i64 vc] 40)).heap[w2.heap.size]? = some (.cells #[.int .u8 a, .slice gA gn gd, .int .i64 vc] 40 (0, 0)) := alloc_at rfl
  have hgA : GadIs ⟨k, f, b, l, W, c⟩ (.agg #[.int .u8 a, .slice gA gn gd, .int .i64 vc]) (w2.alloc (.cells #[.int .u8 a, .slice gA gn gd, .int .i64 vc] 40)) := hg.up ((Below.refl _ _).alloc (Nat.le_refl _) _)
  go_upto_region 4 with (fail)
  refine name_wp (fun w3 => Below w.heap.size w w3 ∧ w3.heap[w.heap.size]? = some (.cells #[.int .u8 k, .int .u8 f, .int .i64 b, .int .i64 l, .int .i64 W, .int .i64 c] 25 (0, 0)) ∧ w3.heap[w2.heap.size]? = some (.cells #[.int .u8 a, .slice gA gn gd, .int .i64 vc] 40 (0, 0)) ∧ GadIs ⟨k, f, b, l, W, c⟩ (.agg #[.int .u8 a, .slice gA gn gd, .int .i64 vc]) w3) ⟨hbA, k0A, k1A, hgA⟩ ?_
  clear hb k0 hg hbA k0A k1A hgA
  generalize w2.heap.size = q at *
  rintro w3 ⟨hb, k0, k1, hg⟩
  refine wp_region_flow0 (by kernel_rfl) (by kernel_rfl) ?_
  intro ι _ φ hφ
  have q := fun i => blk6 (keeps (hφ.old i) k0)
  have q0 := fun i => (q i).1
  have q1 := fun i => (q i).2.1
  have q2 := fun i => (q i).2.2.1
  have q3 := fun i => (q i).2.2.2.1
  have q4 := fun i => (q i).2.2.2.2.1
  have q5 := fun i => (q i).2.2.2.2.2
  clear q
  have p0 := fun i => (blk3 (keeps (hφ.old i) k1)).1
  have p1 := fun i => (blk3 (keeps (hφ.old i) k1)).2.1
  have p2 := fun i => (blk3 (keeps (hφ.old i) k1)).2.2.1
  have hgi := Lib.hid (fun i => hg.up (hφ.old i))
  repeat (go_big_quiet_step ((first
    | (go_at_call 25; exact flow_call hφ (hAr.out _ _ (hgi.out _)))
    | (go_at_call 27; exact flow_call hφ (hDe.out _ _ (hgi.out _)))
    | (go_at_call 23; exact flow_call hφ (hDo.out _)))))
  refine wpQuiet_nil ?_
  intro w4 hv
  replace hb := below_next hb hb.size hv
  clear q0 q1 q2 q3 q4 q5 p0 p1 p2 hφ hgi
  go_wp2
  go_ret
  exact ⟨rfl, hb⟩
theorem verifier_any (x : Ci) (h : x.Good) : NumBy 30 (cvl x) (x.arityN + 2) := by
  intro w
  have hle := arityN_le h
  have hG := Lib.hid (fun w => gadget_any x h w)
  have hAr := Lib.hid (fun (v : Value) (w : World) hv => garity_any x h (v := v) (w := w) hv)
  have hR := Lib.hid (right_good h)
  generalize x.arityN = R at *
  obtain ⟨k, f, b, l, W, c⟩ := x
  unfold cvl at *
  have z1 : IntKind.i64.wrap ((R : Int) + 2) = ((R + 2 : Nat) : Int) := wrap_i (by omega) (by omega)
  clear h
  go_enter Try.func30, Try.ntmps30
  go_upto_region 1 with (fail)
  refine name_wp (fun w1 => Below w.heap.size w w1 ∧ w1.heap[w.heap.size]? = some (.cells #[.int .u8 k, .int .u8 f, .int .i64 b, .int .i64 l, .int .i64 W, .int .i64 c] 25 (0, 0))) ⟨(Below.refl _ _).alloc (Nat.le_refl _) _, alloc_at rfl⟩ ?_
  rintro w1 ⟨hb, k0⟩
  obtain ⟨c0, c1, c2, c3, c4, c5⟩ := blk6 k0
  go_wp2_with fail
  refine call_then (hR.out _) ?_
  intro w2 hb2
  replace hb := below_next hb hb.size hb2
  replace k0 := keeps hb2 k0
  clear hb2 c0 c1 c2 c3 c4 c5
  obtain ⟨c0, c1, c2, c3, c4, c5⟩ := blk6 k0
  go_wp2_with fail
  refine (hG.out _).mono ?_
  rintro e w2 ⟨a, gA, gn, gd, vc, rfl, hb2, hg⟩
  replace hb := below_next hb hb.size hb2
  clear hb2 c0 c1 c2 c3 c4 c5 k0
  go_wp2_with fail
  refine call_then (hAr.out _ _ hg) ?_
  intro w3 hv
  replace hb := below_next hb hb.size hv
  go_wp2
  go_ret
  exact ⟨rfl, hb⟩
end Go.Proofs.Ytgdokfchfgnbbaa
