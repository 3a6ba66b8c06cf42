/-
  TapeErrors, proved: tasks and circuits that may not be are the error that they are, and lists of other sizes an error of size; of any task, any circuit, any small circuit and any list, with no condition.
-/
import Derived.Test.YtaiffgkiliokfaaTqF
import Derived.Deep.Cut
import Derived.Deep.DeepCutAuto
import Derived.Deep.CutBlock
namespace Go.Proofs.Ytaiffgkiliokfaa
open Go.RowKit Go.WideShapes Go.ChangeShapes F Flow
set_option linter.unusedVariables false
set_option linter.unusedSimpArgs false
attribute [local go_sem] eql_elem

/-- What the law has at hand. -/
structure Te (w0 : World) (y x : Ci) (P : Int) (T : ByteArray) (K F B L W C : Int) (w : World) : Prop where
  hb : Below w0.heap.size w0 w
  kt : w.heap[w0.heap.size]? = some (.cells #[.int .u8 y.k, .int .u8 y.f, .int .i64 y.b, .int .i64 y.l, .int .i64 y.w, .int .i64 y.c, .int .i64 P, .string T] 50 (0, 0))
  kc : w.heap[w0.heap.size + 1]? = some (.cells #[.int .u8 x.k, .int .u8 x.f, .int .i64 x.b, .int .i64 x.l, .int .i64 x.w, .int .i64 x.c] 29 (0, 0))
  ks : w.heap[w0.heap.size + 1 + 1]? = some (.cells #[.int .u8 K, .int .u8 F, .int .u8 B, .int .u8 L, .int .u8 W, .int .u8 C] 23 (0, 0))
theorem Te.up {w0 : World} {y x : Ci} {P : Int} {T : ByteArray} {K F B L W C : Int} {w w' : World} (h : Te w0 y x P T K F B L W C w) (hv : Below w.heap.size w w') : Te w0 y x P T K F B L W C w' :=
  ⟨below_next h.hb h.hb.size hv, keeps hv h.kt, keeps hv h.kc, keeps hv h.ks⟩
-- From the small circuit on.
-- From the circuit on.
set_option maxRecDepth 20000 in
set_option maxHeartbeats 8000000 in
theorem errors_walk (y x : Ci) (P : Int) (T : ByteArray) (hT : T.size ≤ maxLen) (K F B L W C : Int) (A : Option Addr) (N d : Nat) (hN : N ≤ maxLen)
    (k0 : 0 ≤ K) (k1 : K ≤ 255) (f0 : 0 ≤ F) (f1 : F ≤ 255) (b0 : 0 ≤ B) (b1 : B ≤ 255) (l0 : 0 ≤ L) (l1 : L ≤ 255) (w0 : 0 ≤ W) (w1 : W ≤ 255) (c0 : 0 ≤ C) (c1 : C ≤ 255) (w : World) :
    Calls Try.prog 4 #[tkv y P T, cvl x, svl K F B L W C, .slice A N d] w fun e w' => e = .returned (.bool true) ∧ Below w.heap.size w w' := by
  have hAw := Lib.hid (fun w => tawake w)
  have hS := (fun w => small_any K F B L W C k0 k1 f0 f1 b0 b1 l0 l1 w0 w1 c0 c1 w)
  obtain ⟨X, hX⟩ : ∃ X, smallC K F B L W C = X := ⟨_, rfl⟩
  have hXg : X.Good := by rw [← hX]; exact small_good _ _ _ _ _ _
  rw [hX] at hS
  clear hX k0 k1 f0 f1 b0 b1 l0 l1 w0 w1 c0 c1
  have hcc := fun w => ccheck_any x.k x.f x.b x.l x.w x.c w
  rw [show (Ci.mk x.k x.f x.b x.l x.w x.c) = x from rfl] at hcc
  have hsc := fun h => swap_code x h
  have htk := fun w => task_any y P T hT w
  have hsp := fun h => spread_bad y P T hT h
  have hot := fun h => other_bad y P T hT h
  have hW1 := fun (hn : N ≤ 30) (g1 g2 c1 c2 : Nat) (c d e f : Value) (w : World) => swap_first X hXg (some ⟨g1, 0, none⟩) (some ⟨g2, 0, none⟩) N (N + 1) c1 c2 (by omega) (by unfold maxLen; omega) (by unfold maxLen; omega) c d e f w
  have hW2 := fun (hn : N ≤ 30) (gs gl c5 : Nat) (e f : Value) (w : World) (hr : Row w gs (List.replicate N 0)) => swap_second X hXg (List.replicate N 0) (List.replicate N 0) (some ⟨gs, 0, none⟩) (some ⟨gs, 0, none⟩) (some ⟨gs, 0, none⟩) (some ⟨gl, 0, none⟩) N (N + 1) N N N c5 N (by simp) (by simp) (by omega) (fun z hz => by rw [List.eq_of_mem_replicate hz]; omega) (fun z hz => by rw [List.eq_of_mem_replicate hz]; omega) (by omega) (by unfold maxLen; omega) (by unfold maxLen; omega) e f w hr.elems hr.elems
  obtain ⟨D, hD⟩ : ∃ D, tkC y P T = D := ⟨_, rfl⟩
  obtain ⟨E, hE⟩ : ∃ E, x.code = E := ⟨_, rfl⟩
  rw [hD] at htk hsp hot
  rw [hE] at hcc hsc
  clear hD hE hXg
  unfold maxLen at hN
  unfold tkv cvl at *
  unfold svl
  replace hS := Lib.hid hS
  replace hcc := Lib.hid hcc
  replace hsc := Lib.hid hsc
  replace htk := Lib.hid htk
  replace hsp := Lib.hid hsp
  replace hot := Lib.hid hot
  replace hW1 := Lib.hid hW1
  replace hW2 := Lib.hid hW2
  go_enter Try.func4, Try.ntmps4
  go_wp2_with fail
  refine name_calls (fun w1 => Te w y x P T K F B L W C w1) ⟨(((Below.refl _ _).alloc (Nat.le_refl _) _).alloc (by simp) _).alloc (by simp; omega) _, alloc_keeps (alloc_keeps (alloc_at rfl)), alloc_keeps (alloc_at (by simp)), alloc_at (by simp)⟩ ?_
  intro w1 H
  refine call_then (hAw.out _) ?_
  intro w2 hw
  replace H := H.up hw
  clear hw hAw
  by_cases h1 : 30 < N
  · have n1 : (30 : Int) < (N : Int) := by omega
    have hb := H.hb
    go_wp2
    go_ret
    exact ⟨rfl, hb⟩
  have n1 : ¬ (30 : Int) < (N : Int) := by omega
  have hmk := make_elems N (by omega)
  have hN30 : N ≤ 30 := by omega
  replace hW1 := Lib.hid (hW1.out hN30)
  replace hW2 := Lib.hid (hW2.out hN30)
  obtain ⟨t0, t1, t2, t3, t4, t5, t6, t7⟩ := blk8 H.kt
  go_wp2_with fail
  refine call_then (htk.out _) ?_
  intro w3 hw
  replace H := H.up hw
  clear t0 t1 t2 t3 t4 t5 t6 t7 hw htk n1
  by_cases hD : D = 0
  · subst hD
    clear hsp hot
    obtain ⟨t0, t1, t2, t3, t4, t5⟩ := blk6 H.kc
    go_wp2_with fail
    refine call_then (hcc.out _) ?_
    intro w5 hw
    replace H := H.up hw
    clear t0 t1 t2 t3 t4 t5 hw hcc
    by_cases hE : E = 0
    · subst hE
      clear hsc
      obtain ⟨t0, t1, t2, t3, t4, t5⟩ := blk6 H.ks
      go_wp2_with fail
      refine call_then (hS.out _) ?_
      intro w3 hw
      replace H := H.up hw
      clear t0 t1 t2 t3 t4 t5 hw hS
      have hb := H.hb
      clear H
      go_upto_region 17 with (fail)
      refine name_wp (fun w4 => Below w.heap.size w w4 ∧ w4.heap[w3.heap.size]? = some (.cells #[.int .u8 X.k, .int .u8 X.f, .int .i64 X.b, .int .i64 X.l, .int .i64 X.w, .int .i64 X.c] 29 (0, 0))) ⟨hb.alloc hb.size _, alloc_at rfl⟩ ?_
      clear hb
      generalize w3.heap.size = px at *
      rintro w4 ⟨hb, kz⟩
      have hv := ((Below.refl w4.heap.size w4).alloc (Nat.le_refl _) (.cells (ecells (List.replicate N 0)).toArray 38)).alloc (by simp) (.cells #[.int .u64 0, .int .u64 0] 38)
      have r1 : Row ((w4.alloc (.cells (ecells (List.replicate N 0)).toArray 38)).alloc (.cells #[.int .u64 0, .int .u64 0] 38)) w4.heap.size (List.replicate N 0) := alloc_keeps (alloc_at rfl)
      have r2 : Row ((w4.alloc (.cells (ecells (List.replicate N 0)).toArray 38)).alloc (.cells #[.int .u64 0, .int .u64 0] 38)) (w4.heap.size + 1) [0] := alloc_at (by simp)
      go_upto_region 18 with (at_builtin; refine wpList_append_full rfl _ _ rfl w4.heap.size N (w4.heap.size + 1) _ 0 rfl r1 (by simp) (by omega) rfl r2 ?_; intro w5 c5 gl hb5 hgl5; clear hgl5)
      replace hv := below_next hv hv.size hb5
      replace hb := below_next hb hb.size hv
      replace kz := keeps hv kz
      clear hv r1 r2 hb5
      go_upto_region 19 with (fail)
      have hv := (Below.refl w5.heap.size w5).alloc (Nat.le_refl _) (.cells (ecells (List.replicate N 0)).toArray 38)
      refine name_wp (fun w6 => Below w.heap.size w w6 ∧ w6.heap[px]? = some (.cells #[.int .u8 X.k, .int .u8 X.f, .int .i64 X.b, .int .i64 X.l, .int .i64 X.w, .int .i64 X.c] 29 (0, 0)) ∧ Row w6 w5.heap.size (List.replicate N 0)) ⟨below_next hb hb.size hv, keeps hv kz, alloc_at rfl⟩ ?_
      clear hb kz hv
      generalize w5.heap.size = gs at *
      rintro w6 ⟨hb, kz, rs⟩
      obtain ⟨t0, t1, t2, t3, t4, t5⟩ := blk6 kz
      go_wp2_with fail
      refine call_then (hW1.out gs gl N c5 _ _ _ _ _) ?_
      intro w7 hw
      replace hb := below_next hb hb.size hw
      replace kz := keeps hw kz
      replace rs := rs.up hw
      clear hw t0 t1 t2 t3 t4 t5
      obtain ⟨t0, t1, t2, t3, t4, t5⟩ := blk6 kz
      go_wp2_with fail
      refine call_then (hW2.out gs gl c5 _ _ _ rs) ?_
      intro w8 hw
      replace hb := below_next hb hb.size hw
      clear hw t0 t1 t2 t3 t4 t5 kz rs
      go_wp2
      go_ret
      exact ⟨rfl, hb⟩
    · have hE0 : (E != 0) = true := by simpa using hE
      replace hsc := Lib.hid (hsc.out hE)
      have hEE : (E != E) = false := by simp
      clear hE
      obtain ⟨t0, t1, t2, t3, t4, t5⟩ := blk6 H.kc
      go_wp2_with fail
      refine call_then (hsc.out _ _ _ _ _ _ _) ?_
      intro w6 hw
      replace H := H.up hw
      clear t0 t1 t2 t3 t4 t5 hw hsc
      obtain ⟨t0, t1, t2, t3, t4, t5⟩ := blk6 H.ks
      go_wp2_with fail
      refine call_then (hS.out _) ?_
      intro w3 hw
      replace H := H.up hw
      clear t0 t1 t2 t3 t4 t5 hw hS
      have hb := H.hb
      clear H
      go_upto_region 17 with (fail)
      refine name_wp (fun w4 => Below w.heap.size w w4 ∧ w4.heap[w3.heap.size]? = some (.cells #[.int .u8 X.k, .int .u8 X.f, .int .i64 X.b, .int .i64 X.l, .int .i64 X.w, .int .i64 X.c] 29 (0, 0))) ⟨hb.alloc hb.size _, alloc_at rfl⟩ ?_
      clear hb
      generalize w3.heap.size = px at *
      rintro w4 ⟨hb, kz⟩
      have hv := ((Below.refl w4.heap.size w4).alloc (Nat.le_refl _) (.cells (ecells (List.replicate N 0)).toArray 38)).alloc (by simp) (.cells #[.int .u64 0, .int .u64 0] 38)
      have r1 : Row ((w4.alloc (.cells (ecells (List.replicate N 0)).toArray 38)).alloc (.cells #[.int .u64 0, .int .u64 0] 38)) w4.heap.size (List.replicate N 0) := alloc_keeps (alloc_at rfl)
      have r2 : Row ((w4.alloc (.cells (ecells (List.replicate N 0)).toArray 38)).alloc (.cells #[.int .u64 0, .int .u64 0] 38)) (w4.heap.size + 1) [0] := alloc_at (by simp)
      go_upto_region 18 with (at_builtin; refine wpList_append_full rfl _ _ rfl w4.heap.size N (w4.heap.size + 1) _ 0 rfl r1 (by simp) (by omega) rfl r2 ?_; intro w5 c5 gl hb5 hgl5; clear hgl5)
      replace hv := below_next hv hv.size hb5
      replace hb := below_next hb hb.size hv
      replace kz := keeps hv kz
      clear hv r1 r2 hb5
      go_upto_region 19 with (fail)
      have hv := (Below.refl w5.heap.size w5).alloc (Nat.le_refl _) (.cells (ecells (List.replicate N 0)).toArray 38)
      refine name_wp (fun w6 => Below w.heap.size w w6 ∧ w6.heap[px]? = some (.cells #[.int .u8 X.k, .int .u8 X.f, .int .i64 X.b, .int .i64 X.l, .int .i64 X.w, .int .i64 X.c] 29 (0, 0)) ∧ Row w6 w5.heap.size (List.replicate N 0)) ⟨below_next hb hb.size hv, keeps hv kz, alloc_at rfl⟩ ?_
      clear hb kz hv
      generalize w5.heap.size = gs at *
      rintro w6 ⟨hb, kz, rs⟩
      obtain ⟨t0, t1, t2, t3, t4, t5⟩ := blk6 kz
      go_wp2_with fail
      refine call_then (hW1.out gs gl N c5 _ _ _ _ _) ?_
      intro w7 hw
      replace hb := below_next hb hb.size hw
      replace kz := keeps hw kz
      replace rs := rs.up hw
      clear hw t0 t1 t2 t3 t4 t5
      obtain ⟨t0, t1, t2, t3, t4, t5⟩ := blk6 kz
      go_wp2_with fail
      refine call_then (hW2.out gs gl c5 _ _ _ rs) ?_
      intro w8 hw
      replace hb := below_next hb hb.size hw
      clear hw t0 t1 t2 t3 t4 t5 kz rs
      go_wp2
      go_ret
      exact ⟨rfl, hb⟩
  · have hD0 : (D != 0) = true := by simpa using hD
    have hDD : (D != D) = false := by simp
    replace hsp := Lib.hid (hsp.out hD)
    replace hot := Lib.hid (hot.out hD)
    clear hD
    obtain ⟨t0, t1, t2, t3, t4, t5, t6, t7⟩ := blk8 H.kt
    go_wp2_with fail
    refine call_then (hsp.out _ _ _ _ _) ?_
    intro w4 hw
    replace H := H.up hw
    clear t0 t1 t2 t3 t4 t5 t6 t7 hw hsp
    go_upto_region 8 with (fail)
    refine name_wp (fun v => Te w y x P T K F B L W C v) (H.up ((Below.refl _ _).alloc (Nat.le_refl _) _)) ?_
    clear H
    intro w4' H
    obtain ⟨t0, t1, t2, t3, t4, t5, t6, t7⟩ := blk8 H.kt
    go_wp2_with fail
    refine call_then (hot.out _ _ _ _ _ _ _) ?_
    intro w4 hw
    replace H := H.up hw
    clear t0 t1 t2 t3 t4 t5 t6 t7 hw hot
    go_upto_region 9 with (fail)
    refine name_wp (fun v => Te w y x P T K F B L W C v) (H.up ((Below.refl _ _).alloc (Nat.le_refl _) _)) ?_
    clear H
    intro w4' H
    obtain ⟨t0, t1, t2, t3, t4, t5⟩ := blk6 H.kc
    go_wp2_with fail
    refine call_then (hcc.out _) ?_
    intro w5 hw
    replace H := H.up hw
    clear t0 t1 t2 t3 t4 t5 hw hcc
    by_cases hE : E = 0
    · subst hE
      clear hsc
      obtain ⟨t0, t1, t2, t3, t4, t5⟩ := blk6 H.ks
      go_wp2_with fail
      refine call_then (hS.out _) ?_
      intro w3 hw
      replace H := H.up hw
      clear t0 t1 t2 t3 t4 t5 hw hS
      have hb := H.hb
      clear H
      go_upto_region 17 with (fail)
      refine name_wp (fun w4 => Below w.heap.size w w4 ∧ w4.heap[w3.heap.size]? = some (.cells #[.int .u8 X.k, .int .u8 X.f, .int .i64 X.b, .int .i64 X.l, .int .i64 X.w, .int .i64 X.c] 29 (0, 0))) ⟨hb.alloc hb.size _, alloc_at rfl⟩ ?_
      clear hb
      generalize w3.heap.size = px at *
      rintro w4 ⟨hb, kz⟩
      have hv := ((Below.refl w4.heap.size w4).alloc (Nat.le_refl _) (.cells (ecells (List.replicate N 0)).toArray 38)).alloc (by simp) (.cells #[.int .u64 0, .int .u64 0] 38)
      have r1 : Row ((w4.alloc (.cells (ecells (List.replicate N 0)).toArray 38)).alloc (.cells #[.int .u64 0, .int .u64 0] 38)) w4.heap.size (List.replicate N 0) := alloc_keeps (alloc_at rfl)
      have r2 : Row ((w4.alloc (.cells (ecells (List.replicate N 0)).toArray 38)).alloc (.cells #[.int .u64 0, .int .u64 0] 38)) (w4.heap.size + 1) [0] := alloc_at (by simp)
      go_upto_region 18 with (at_builtin; refine wpList_append_full rfl _ _ rfl w4.heap.size N (w4.heap.size + 1) _ 0 rfl r1 (by simp) (by omega) rfl r2 ?_; intro w5 c5 gl hb5 hgl5; clear hgl5)
      replace hv := below_next hv hv.size hb5
      replace hb := below_next hb hb.size hv
      replace kz := keeps hv kz
      clear hv r1 r2 hb5
      go_upto_region 19 with (fail)
      have hv := (Below.refl w5.heap.size w5).alloc (Nat.le_refl _) (.cells (ecells (List.replicate N 0)).toArray 38)
      refine name_wp (fun w6 => Below w.heap.size w w6 ∧ w6.heap[px]? = some (.cells #[.int .u8 X.k, .int .u8 X.f, .int .i64 X.b, .int .i64 X.l, .int .i64 X.w, .int .i64 X.c] 29 (0, 0)) ∧ Row w6 w5.heap.size (List.replicate N 0)) ⟨below_next hb hb.size hv, keeps hv kz, alloc_at rfl⟩ ?_
      clear hb kz hv
      generalize w5.heap.size = gs at *
      rintro w6 ⟨hb, kz, rs⟩
      obtain ⟨t0, t1, t2, t3, t4, t5⟩ := blk6 kz
      go_wp2_with fail
      refine call_then (hW1.out gs gl N c5 _ _ _ _ _) ?_
      intro w7 hw
      replace hb := below_next hb hb.size hw
      replace kz := keeps hw kz
      replace rs := rs.up hw
      clear hw t0 t1 t2 t3 t4 t5
      obtain ⟨t0, t1, t2, t3, t4, t5⟩ := blk6 kz
      go_wp2_with fail
      refine call_then (hW2.out gs gl c5 _ _ _ rs) ?_
      intro w8 hw
      replace hb := below_next hb hb.size hw
      clear hw t0 t1 t2 t3 t4 t5 kz rs
      go_wp2
      go_ret
      exact ⟨rfl, hb⟩
    · have hE0 : (E != 0) = true := by simpa using hE
      replace hsc := Lib.hid (hsc.out hE)
      have hEE : (E != E) = false := by simp
      clear hE
      obtain ⟨t0, t1, t2, t3, t4, t5⟩ := blk6 H.kc
      go_wp2_with fail
      refine call_then (hsc.out _ _ _ _ _ _ _) ?_
      intro w6 hw
      replace H := H.up hw
      clear t0 t1 t2 t3 t4 t5 hw hsc
      obtain ⟨t0, t1, t2, t3, t4, t5⟩ := blk6 H.ks
      go_wp2_with fail
      refine call_then (hS.out _) ?_
      intro w3 hw
      replace H := H.up hw
      clear t0 t1 t2 t3 t4 t5 hw hS
      have hb := H.hb
      clear H
      go_upto_region 17 with (fail)
      refine name_wp (fun w4 => Below w.heap.size w w4 ∧ w4.heap[w3.heap.size]? = some (.cells #[.int .u8 X.k, .int .u8 X.f, .int .i64 X.b, .int .i64 X.l, .int .i64 X.w, .int .i64 X.c] 29 (0, 0))) ⟨hb.alloc hb.size _, alloc_at rfl⟩ ?_
      clear hb
      generalize w3.heap.size = px at *
      rintro w4 ⟨hb, kz⟩
      have hv := ((Below.refl w4.heap.size w4).alloc (Nat.le_refl _) (.cells (ecells (List.replicate N 0)).toArray 38)).alloc (by simp) (.cells #[.int .u64 0, .int .u64 0] 38)
      have r1 : Row ((w4.alloc (.cells (ecells (List.replicate N 0)).toArray 38)).alloc (.cells #[.int .u64 0, .int .u64 0] 38)) w4.heap.size (List.replicate N 0) := alloc_keeps (alloc_at rfl)
      have r2 : Row ((w4.alloc (.cells (ecells (List.replicate N 0)).toArray 38)).alloc (.cells #[.int .u64 0, .int .u64 0] 38)) (w4.heap.size + 1) [0] := alloc_at (by simp)
      go_upto_region 18 with (at_builtin; refine wpList_append_full rfl _ _ rfl w4.heap.size N (w4.heap.size + 1) _ 0 rfl r1 (by simp) (by omega) rfl r2 ?_; intro w5 c5 gl hb5 hgl5; clear hgl5)
      replace hv := below_next hv hv.size hb5
      replace hb := below_next hb hb.size hv
      replace kz := keeps hv kz
      clear hv r1 r2 hb5
      go_upto_region 19 with (fail)
      have hv := (Below.refl w5.heap.size w5).alloc (Nat.le_refl _) (.cells (ecells (List.replicate N 0)).toArray 38)
      refine name_wp (fun w6 => Below w.heap.size w w6 ∧ w6.heap[px]? = some (.cells #[.int .u8 X.k, .int .u8 X.f, .int .i64 X.b, .int .i64 X.l, .int .i64 X.w, .int .i64 X.c] 29 (0, 0)) ∧ Row w6 w5.heap.size (List.replicate N 0)) ⟨below_next hb hb.size hv, keeps hv kz, alloc_at rfl⟩ ?_
      clear hb kz hv
      generalize w5.heap.size = gs at *
      rintro w6 ⟨hb, kz, rs⟩
      obtain ⟨t0, t1, t2, t3, t4, t5⟩ := blk6 kz
      go_wp2_with fail
      refine call_then (hW1.out gs gl N c5 _ _ _ _ _) ?_
      intro w7 hw
      replace hb := below_next hb hb.size hw
      replace kz := keeps hw kz
      replace rs := rs.up hw
      clear hw t0 t1 t2 t3 t4 t5
      obtain ⟨t0, t1, t2, t3, t4, t5⟩ := blk6 kz
      go_wp2_with fail
      refine call_then (hW2.out gs gl c5 _ _ _ rs) ?_
      intro w8 hw
      replace hb := below_next hb hb.size hw
      clear hw t0 t1 t2 t3 t4 t5 kz rs
      go_wp2
      go_ret
      exact ⟨rfl, hb⟩

theorem own_tapeErrors : ownKnob Try.prog.godebug = none := by kernel_rfl
set_option maxRecDepth 100000 in
theorem lifted_tapeErrors (os : Os) (started : os.Started) (H : Type) (enc : TypeId × Value → H) :
    ReturnsInHanded {} Try.checked os 4 .any (Rows.tapeErrorsSpec.pre6 enc Try.prog Try.f4 Rows.tapeErrorsRow.domain false) (Rows.tapeErrorsSpec.post enc Try.prog Try.f4 false true false false) := by
  refine returnsInHanded_of_change (C := Try.checked) own_tapeErrors started (by kernel_rfl) Try.func4
    (ChangeSpec.witness6 (enc := enc) (C := Try.checked) false ⟨#[], #[.agg #[.int .u8 0, .int .u8 0, .int .i64 0, .int .i64 0, .int .i64 0, .int .i64 0, .int .i64 0, .string ⟨#[]⟩], .agg #[.int .u8 0, .int .u8 0, .int .i64 0, .int .i64 0, .int .i64 0, .int .i64 0], .agg #[.int .u8 0, .int .u8 0, .int .u8 0, .int .u8 0, .int .u8 0, .int .u8 0], .slice none 0 0], []⟩ 8 (by kernel_rfl) (by kernel_rfl) (by kernel_rfl) (by kernel_rfl)) ?_
  intro W base args ds gs before hval0 hW hcnd _
  have hval : ∀ (j : Nat) t v, Try.f4.params[j]? = some t → args[j]? = some v → Value.okWide Try.prog W .any base t v := hval0
  have hW' := hW
  obtain ⟨p, q, hA0, hV, rfl, hfz, hnd⟩ := hW
  have hA : DataW.TrodAll enc Try.prog W 0 (fun _ => true) true Try.f4.params.toList args.toList ds p := hA0
  rw [Try.params4] at hA hval
  clear hA0 hval0
  obtain ⟨v0, vs0, d0, ds0, p0, q0, hargs, rfl, rfl, h0, r0⟩ := trodAll_cons hA
  obtain ⟨v1, vs1, d1, ds1, p1, q1, rfl, rfl, rfl, h1, r1⟩ := trodAll_cons r0
  obtain ⟨v2, vs2, d2, ds2, p2, q2, rfl, rfl, rfl, h2, r2⟩ := trodAll_cons r1
  obtain ⟨v3, vs3, d3, ds3, p3, q3, rfl, rfl, rfl, h3, r3⟩ := trodAll_cons r2
  obtain ⟨rfl, rfl, rfl⟩ := trodAll_nil r3
  obtain rfl : args = #[v0, v1, v2, v3] := by cases args; simp_all
  obtain ⟨rfl, rfl⟩ := trodVars_none hV
  obtain ⟨y0, P0, T0, rfl, hT0⟩ := open_task (hval 0 50 v0 rfl rfl) h0
  obtain ⟨x0, rfl, ck0, ck1, cf0, cf1⟩ := open_circuit (hval 1 29 v1 rfl rfl) h1
  obtain ⟨K, F', B, L, W', C, rfl, s⟩ := open_small (hval 2 23 v2 rfl rfl) h2
  obtain ⟨A3, x3, c3, rfl, l3, m3, e3, o3⟩ := open_elems (hval 3 24 v3 rfl rfl) h3
  refine (errors_walk y0 x0 P0 T0 hT0 K F' B L W' C A3 x3.length c3 (Nat.le_trans l3 m3) s.k0 s.k1 s.f0 s.f1 s.b0 s.b1 s.l0 s.l1 s.w0 s.w1 s.c0 s.c1 W).mono fun e W' ⟨he, hb⟩ => ?_
  subst he
  exact ⟨_, rfl, law_true (by decide +kernel) rfl rfl Try.underlying4 hW' rfl hb⟩
theorem over_tapeErrors : Rows.tapeErrorsRow.holds Try.pinned (OpenSpec.ofChange Rows.tapeErrorsSpec) :=
  OpenClaim.holds_of_wide 4 Try.f4 rfl rfl rfl rfl rfl rfl rfl ⟨rfl, rfl, rfl, rfl, rfl⟩ rfl rfl rfl rfl rfl (by kernel_rfl) Try.func4 (by kernel_rfl)
    (of_decide_eq_true (by kernel_rfl)) (by unfold Func.isWrapper; first | (rw [if_pos (by decide +kernel)]; kernel_rfl) | (rw [if_neg (by decide +kernel)]; exact ⟨rfl, rfl⟩))
    (fun os started H enc _ => lifted_tapeErrors os started H enc)
theorem tapeErrors_proved : Rows.TapeErrorsSaid := over_tapeErrors
#print axioms tapeErrors_proved
end Go.Proofs.Ytaiffgkiliokfaa
