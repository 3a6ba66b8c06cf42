/-
  The law's example: a proof of a Count.
-/
import Derived.Test.YtebgfelbffgnbaaGreatDoorPfL
namespace Go.Proofs.YtebgfelbffgnbaaGreatDoor
open Go.RowKit Flow F
set_option linter.unusedVariables false
set_option linter.unusedSimpArgs false
attribute [local go_sem] eql_elem

/-- The example's circuit. -/
def ci1P : Ci := ⟨1, 1, 0, 0, 0, 0⟩
theorem ci1P_good : ci1P.Good := Ci.good (by decide +kernel)
set_option maxRecDepth 20000 in
set_option maxHeartbeats 4000000 in
theorem awake11_ok (w : World) (hT : Tabs w) : Calls Tryz.prog 10 #[] w fun e w' => e = .returned (.bool true) ∧ Below w.heap.size w w' := by
  have hP := Lib.hid (fun Ax Bs (w : World) (hT : Tabs w) hA hS lA lS => prove_any ci1P ci1P_good (by decide +kernel) 1 2 (by decide) rfl (by decide +kernel) (by decide) (by decide +kernel) [1] [3, 4] [] Ax Bs none 1 1 2 2 0 0 rfl (by decide +kernel) (Nat.le_refl _) (by decide +kernel) rfl (by decide +kernel) rfl
    (fun y hy => by rw [List.mem_singleton.1 hy]; decide) (fun y hy => by simp only [List.mem_cons, List.not_mem_nil, or_false] at hy; rcases hy with rfl | rfl <;> decide) (fun y hy => by cases hy) w hT hA hS (fun k hk => absurd hk (Nat.not_lt_zero _)) lA lS (fun a e => by cases e))
  unfold ProveOut at hP
  rw [show ci1P.proofN = 5 by decide +kernel, show ci1P.arityN = 2 by decide +kernel] at hP
  unfold cvl at hP
  rw [show ci1P.k = 1 from rfl, show ci1P.f = 1 from rfl, show ci1P.b = 0 from rfl, show ci1P.l = 0 from rfl, show ci1P.w = 0 from rfl, show ci1P.c = 0 from rfl] at hP
  replace hT := Lib.hid hT
  go_enter Tryz.func10, Tryz.ntmps10
  go_upto_region 2 with (fail)
  refine name_wp (fun w1 => Below w.heap.size w w1 ∧ w1.heap[w.heap.size]? = some (.cells #[.int .u8 1, .int .u8 1, .int .i64 0, .int .i64 0, .int .i64 0, .int .i64 0] 33 (0, 0))) ⟨(Below.refl _ _).alloc (Nat.le_refl _) _, alloc_at rfl⟩ ?_
  rintro w1 ⟨hb, kc⟩
  obtain ⟨c0, c1, c2, c3, c4, c5⟩ := blk6 kc
  have hal : Below w1.heap.size w1 ((w1.alloc (.cells #[.int .u64 1, .int .u64 0] 28 (0, 0))).alloc (.cells #[.int .u64 3, .int .u64 0, .int .u64 4, .int .u64 0] 28 (0, 0))) := ((Below.refl _ _).alloc (Nat.le_refl _) _).alloc (by simp) _
  have r1 : Row ((w1.alloc (.cells #[.int .u64 1, .int .u64 0] 28 (0, 0))).alloc (.cells #[.int .u64 3, .int .u64 0, .int .u64 4, .int .u64 0] 28 (0, 0))) w1.heap.size [1] := alloc_keeps (alloc_at rfl)
  have r2 : Row ((w1.alloc (.cells #[.int .u64 1, .int .u64 0] 28 (0, 0))).alloc (.cells #[.int .u64 3, .int .u64 0, .int .u64 4, .int .u64 0] 28 (0, 0))) (w1.heap.size + 1) [3, 4] := alloc_at (by simp)
  have hcl := Lib.hid (hP.out (some ⟨w1.heap.size, 0, none⟩) (some ⟨w1.heap.size + 1, 0, none⟩) _ ((hT.out.up hb).up hal) r1.elems r2.elems (fun a e => by cases e; exact lt_of_get r1) (fun a e => by cases e; exact lt_of_get r2))
  replace hb := Lib.hid (below_next hb hb.size hal)
  clear hP hal r1 r2
  go_wp2_with fail
  refine hcl.out.mono ?_
  clear hcl c0 c1 c2 c3 c4 c5 kc
  rintro e w2 ⟨C, P, L, g, -, -, -, -, rfl, hv, -, hr⟩
  have hbe := Lib.hid (below_next hb.out hb.out.size hv)
  have s0 := hr.lo (k := 0) (by rw [lst_length]; decide)
  have s1 := hr.hi (k := 0) (by rw [lst_length]; decide)
  have s2 := hr.lo (k := 1) (by rw [lst_length]; decide)
  have s3 := hr.hi (k := 1) (by rw [lst_length]; decide)
  rw [lst_at _ (by decide)] at s0 s1 s2 s3
  rw [show proofL 1 [3, 4] P L 2 0 = 3 by unfold proofL; rw [if_pos (by decide)]; decide +kernel] at s0 s1
  rw [show proofL 1 [3, 4] P L 2 1 = 4 by unfold proofL; rw [if_pos (by decide)]; decide +kernel] at s2 s3
  rw [show lo 3 = 3 by decide +kernel] at s0
  rw [show hi 3 = 0 by decide +kernel] at s1
  rw [show lo 4 = 4 by decide +kernel] at s2
  rw [show hi 4 = 0 by decide +kernel] at s3
  rw [Nat.zero_mul] at s0 s1
  rw [Nat.zero_add] at s1
  rw [Nat.one_mul] at s2 s3
  clear hv hr hb
  go_wp2
  go_ret
  exact ⟨rfl, hbe.out⟩
end Go.Proofs.YtebgfelbffgnbaaGreatDoor
/-
  Proofs: what can't be.
-/
namespace Go.Proofs.YtebgfelbffgnbaaGreatDoor
open Go.RowKit Flow F
set_option linter.unusedVariables false
set_option linter.unusedSimpArgs false
attribute [local go_sem] eql_elem

theorem check_code (x : Ci) (w : World) : Calls Tryz.prog 48 #[cvl x] w fun e w' => e = .returned (.int .i64 x.code) ∧ Below w.heap.size w w' := ccheck_any x.k x.f x.b x.l x.w x.c w
set_option maxRecDepth 20000 in
theorem prove_bad (x : Ci) (h : x.code ≠ 0) (A B C : Value) (w : World) : Calls Tryz.prog 18 #[cvl x, A, B, C] w fun e w' => e = .returned (.tuple #[.slice none 0 0, .int .i64 x.code]) ∧ Below w.heap.size w w' := by
  have hC := fun w => check_code x w
  have h1 : (x.code != 0) = true := by simpa using h
  unfold cvl at *
  generalize x.code = z at *
  replace hC := Lib.hid hC
  clear h
  go_enter Tryz.func18, Tryz.ntmps18
  go_upto_region 1 with (fail)
  refine name_wp (fun w1 => Below w.heap.size w w1 ∧ w1.heap[w.heap.size]? = some (cobj x)) ⟨(Below.refl _ _).alloc (Nat.le_refl _) _, alloc_at rfl⟩ ?_
  rintro w1 ⟨hb, kc⟩
  obtain ⟨c0, c1, c2, c3, c4, c5⟩ := blk6z kc
  go_wp2_with fail
  refine call_then (hC.out _) ?_
  intro w2 hv
  replace hb := below_next hb hb.size hv
  replace kc := keeps hv kc
  clear hv c0 c1 c2 c3 c4 c5
  go_wp2
  go_ret2
  exact ⟨rfl, hb⟩
set_option maxRecDepth 20000 in
theorem query_bad (x : Ci) (h : x.code ≠ 0) (A B C : Value) (y sh : Int) (w : World) : Calls Tryz.prog 22 #[cvl x, A, B, C, .agg #[.int .u64 (lo y), .int .u64 (hi y)], .int .i64 sh] w fun e w' => e = .returned (.tuple #[.slice none 0 0, .int .i64 x.code]) ∧ Below w.heap.size w w' := by
  have hC := fun w => check_code x w
  have h1 : (x.code != 0) = true := by simpa using h
  unfold cvl at *
  generalize x.code = z at *
  replace hC := Lib.hid hC
  clear h
  go_enter Tryz.func22, Tryz.ntmps22
  go_upto_region 1 with (fail)
  refine name_wp (fun w1 => Below w.heap.size w w1 ∧ w1.heap[w.heap.size]? = some (cobj x)) ⟨((Below.refl _ _).alloc (Nat.le_refl _) _).alloc (by simp) _, alloc_keeps (alloc_at rfl)⟩ ?_
  rintro w1 ⟨hb, kc⟩
  obtain ⟨c0, c1, c2, c3, c4, c5⟩ := blk6z kc
  go_wp2_with fail
  refine call_then (hC.out _) ?_
  intro w2 hv
  replace hb := below_next hb hb.size hv
  replace kc := keeps hv kc
  clear hv c0 c1 c2 c3 c4 c5
  go_wp2
  go_ret2
  exact ⟨rfl, hb⟩
set_option maxRecDepth 20000 in
theorem decide_bad (x : Ci) (h : x.code ≠ 0) (A : Value) (w : World) : Calls Tryz.prog 26 #[cvl x, A] w fun e w' => e = .returned (.tuple #[.bool false, .int .i64 x.code]) ∧ Below w.heap.size w w' := by
  have hC := fun w => check_code x w
  have h1 : (x.code != 0) = true := by simpa using h
  unfold cvl at *
  generalize x.code = z at *
  replace hC := Lib.hid hC
  clear h
  go_enter Tryz.func26, Tryz.ntmps26
  go_upto_region 1 with (fail)
  refine name_wp (fun w1 => Below w.heap.size w w1 ∧ w1.heap[w.heap.size]? = some (cobj x)) ⟨(Below.refl _ _).alloc (Nat.le_refl _) _, alloc_at rfl⟩ ?_
  rintro w1 ⟨hb, kc⟩
  obtain ⟨c0, c1, c2, c3, c4, c5⟩ := blk6z kc
  go_wp2_with fail
  refine call_then (hC.out _) ?_
  intro w2 hv
  replace hb := below_next hb hb.size hv
  replace kc := keeps hv kc
  clear hv c0 c1 c2 c3 c4 c5
  go_wp2
  go_ret2
  exact ⟨rfl, hb⟩
set_option maxRecDepth 20000 in
theorem query_size (x : Ci) (h : x.Good) (A C : Value) (B : Option Addr) (n c : Nat) (hn : n ≠ x.proofN) (y sh : Int) (w : World) : Calls Tryz.prog 22 #[cvl x, A, .slice B n c, C, .agg #[.int .u64 (lo y), .int .u64 (hi y)], .int .i64 sh] w fun e w' => e = .returned (.tuple #[.slice none 0 0, .int .i64 9]) ∧ Below w.heap.size w w' := by
  have hP := proof_any x h
  have h1 : ((n : Int) != (x.proofN : Int)) = true := by simp; omega
  generalize x.proofN = pN at *
  have hC := fun w => check_good h w
  unfold cvl NumBy at *
  replace hC := Lib.hid hC
  replace hP := Lib.hid hP
  clear h
  go_enter Tryz.func22, Tryz.ntmps22
  go_upto_region 1 with (fail)
  refine name_wp (fun w1 => Below w.heap.size w w1 ∧ w1.heap[w.heap.size]? = some (cobj x)) ⟨((Below.refl _ _).alloc (Nat.le_refl _) _).alloc (by simp) _, alloc_keeps (alloc_at rfl)⟩ ?_
  rintro w1 ⟨hb, kc⟩
  obtain ⟨c0, c1, c2, c3, c4, c5⟩ := blk6z kc
  go_wp2_with fail
  refine call_then (hC.out _) ?_
  intro w2 hv
  replace hb := below_next hb hb.size hv
  replace kc := keeps hv kc
  clear hv c0 c1 c2 c3 c4 c5
  obtain ⟨c0, c1, c2, c3, c4, c5⟩ := blk6z kc
  go_wp2_with fail
  refine call_then (hP.out _) ?_
  intro w3 hv
  replace hb := below_next hb hb.size hv
  clear hv c0 c1 c2 c3 c4 c5 kc
  go_wp2
  go_ret2
  exact ⟨rfl, hb⟩
set_option maxRecDepth 20000 in
theorem decide_size (x : Ci) (h : x.Good) (B : Option Addr) (n c : Nat) (hn : n ≠ x.arityN + 2) (w : World) : Calls Tryz.prog 26 #[cvl x, .slice B n c] w fun e w' => e = .returned (.tuple #[.bool false, .int .i64 9]) ∧ Below w.heap.size w w' := by
  have hP := verifier_any x h
  have h1 : ((n : Int) != ((x.arityN + 2 : Nat) : Int)) = true := by simp; omega
  generalize x.arityN + 2 = pN at *
  have hC := fun w => check_good h w
  unfold cvl NumBy at *
  replace hC := Lib.hid hC
  replace hP := Lib.hid hP
  clear h
  go_enter Tryz.func26, Tryz.ntmps26
  go_upto_region 1 with (fail)
  refine name_wp (fun w1 => Below w.heap.size w w1 ∧ w1.heap[w.heap.size]? = some (cobj x)) ⟨(Below.refl _ _).alloc (Nat.le_refl _) _, alloc_at rfl⟩ ?_
  rintro w1 ⟨hb, kc⟩
  obtain ⟨c0, c1, c2, c3, c4, c5⟩ := blk6z kc
  go_wp2_with fail
  refine call_then (hC.out _) ?_
  intro w2 hv
  replace hb := below_next hb hb.size hv
  replace kc := keeps hv kc
  clear hv c0 c1 c2 c3 c4 c5
  obtain ⟨c0, c1, c2, c3, c4, c5⟩ := blk6z kc
  go_wp2_with fail
  refine call_then (hP.out _) ?_
  intro w3 hv
  replace hb := below_next hb hb.size hv
  clear hv c0 c1 c2 c3 c4 c5 kc
  go_wp2
  go_ret2
  exact ⟨rfl, hb⟩
set_option maxRecDepth 20000 in
theorem gadget_bad (x : Ci) (h : x.code ≠ 0) (w : World) : Calls Tryz.prog 15 #[cvl x] w fun e w' => e = .returned (.agg #[.int .u8 0, .slice none 0 0, .int .i64 0]) ∧ Below w.heap.size w w' := by
  have hR := fun w => right_any x w
  rw [decide_eq_false h] at hR
  unfold cvl at *
  replace hR := Lib.hid hR
  clear h
  go_enter Tryz.func15, Tryz.ntmps15
  go_upto_region 1 with (fail)
  refine name_wp (fun w1 => Below w.heap.size w w1 ∧ w1.heap[w.heap.size]? = some (cobj x) ∧ w1.heap[w.heap.size + 1]? = some (.cells #[.int .u8 0, .slice none 0 0, .int .i64 0] 43 (0, 0))) ⟨((Below.refl _ _).alloc (Nat.le_refl _) _).alloc (by simp) _, alloc_keeps (alloc_at rfl), alloc_at (by simp)⟩ ?_
  rintro w1 ⟨hb, kc, kg⟩
  obtain ⟨c0, c1, c2, c3, c4, c5⟩ := blk6z kc
  go_wp2_with fail
  refine call_then (hR.out _) ?_
  intro w2 hv
  replace hb := below_next hb hb.size hv
  replace kg := keeps hv kg
  clear hv c0 c1 c2 c3 c4 c5 kc
  obtain ⟨d0, d1, d2, f0, f1, f2⟩ := blk3 kg
  go_wp2
  have kk := (store1 (store1 (store1 kg (o := 0) (v := .int .u8 0)) (o := 1) (v := .slice none 0 0)) (o := 2) (v := .int .i64 0)).trans rfl
  obtain ⟨z0, z1, z2, _⟩ := blk3 (u := .int .u8 0) (v := .slice none 0 0) (x := .int .i64 0) kk
  have hb4 := ((hb.setCell (p := ⟨w.heap.size + 1, 0, none⟩) (by show w.heap.size ≤ w.heap.size + 1; omega) (.int .u8 0)).setCell (p := ⟨w.heap.size + 1, 1, none⟩) (by show w.heap.size ≤ w.heap.size + 1; omega) (.slice none 0 0)).setCell (p := ⟨w.heap.size + 1, 2, none⟩) (by show w.heap.size ≤ w.heap.size + 1; omega) (.int .i64 0)
  exact bodyPost_ret (v := .agg #[.int .u8 0, .slice none 0 0, .int .i64 0]) (by simp [results, Tryz.results15, go_sem, z0, z1, z2]) rfl ⟨rfl, hb4⟩
set_option maxRecDepth 20000 in
theorem direct_bad (x : Ci) (h : x.code ≠ 0) (A B : Option Addr) (n c m d : Nat) (w : World) : Calls Tryz.prog 36 #[cvl x, .slice A n c, .slice B m d] w fun e w' => e = .returned (.tuple #[.agg #[.int .u64 0, .int .u64 0], .int .i64 x.code]) ∧ Below w.heap.size w w' := by
  have hG := Lib.hid (fun w => gadget_bad x h w)
  have hR := Lib.hid (fun fv w => run_code x A B n c m d 1 fv h w)
  unfold RunBad at hR
  unfold cvl at *
  generalize x.code = z at *
  clear h
  have hmf : ∀ (fn : Fn) (first cap : Array Value) (w : World), (Instr.makeFunc fn first cap).run Tryz.prog w = .ok (.func fn first cap) w := fun _ _ _ _ => rfl
  go_enter Tryz.func36, Tryz.ntmps36
  go_upto_region 1 with (fail)
  refine name_wp (fun w1 => Below w.heap.size w w1 ∧ w1.heap[w.heap.size]? = some (cobj x) ∧ Holds w1 (w.heap.size + 1) 0) ⟨((Below.refl _ _).alloc (Nat.le_refl _) _).alloc (by simp) _, alloc_keeps (alloc_at rfl), alloc_at (by simp)⟩ ?_
  rintro w1 ⟨hb, kc, kr⟩
  obtain ⟨c0, c1, c2, c3, c4, c5⟩ := blk6z kc
  go_wp2_with fail
  refine call_then (hG.out _) ?_
  intro w2 hv
  replace hb := below_next hb hb.size hv
  replace kc := keeps hv kc
  replace kr := kr.up hv
  clear hv c0 c1 c2 c3 c4 c5
  go_upto_region 2 with (fail)
  refine name_wp (fun w1 => Below w.heap.size w w1 ∧ w1.heap[w.heap.size]? = some (cobj x) ∧ Holds w1 (w.heap.size + 1) 0) ⟨hb.alloc hb.size _, alloc_keeps kc, kr.alloc _⟩ ?_
  clear hb kc kr
  rintro w3 ⟨hb, kc, kr⟩
  obtain ⟨c0, c1, c2, c3, c4, c5⟩ := blk6z kc
  go_wp2_with fail
  refine call_then (hR.out _ _) ?_
  intro w4 hv
  replace hb := below_next hb hb.size hv
  replace kr := kr.up hv
  clear hv c0 c1 c2 c3 c4 c5 kc
  obtain ⟨t0, t1, t2, t3⟩ := blk2 kr
  go_wp2
  obtain ⟨p2, q2, _, _⟩ := blk2 (kr.set 0)
  rw [show lo 0 = 0 from rfl, show hi 0 = 0 from rfl] at p2 q2
  exact bodyPost_ret (v := .tuple #[.agg #[.int .u64 0, .int .u64 0], .int .i64 z]) (by simp [results, Tryz.results36, go_sem, p2, q2]) rfl ⟨rfl, below_store2 hb (Nat.le_succ _)⟩
end Go.Proofs.YtebgfelbffgnbaaGreatDoor
