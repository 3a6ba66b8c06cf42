/-
  Run: what can't be run.
-/
import Derived.Test.YtgdokfchfgnbbaaCkP
namespace Go.Proofs.Ytgdokfchfgnbbaa
open Go.RowKit Flow F
set_option linter.unusedVariables false
set_option linter.unusedSimpArgs false
attribute [local go_sem] eql_elem

theorem is_func (F : FuncId) (caps : Array Value) (w : World) : (binOp .eql 93 (.func (.func F) #[] caps) .nilFunc).run Try.prog w = .ok (.bool false) w := by
  have h : ∀ d : Nat, (Op.equalIn (d + 1) 93 (.func (.func F) #[] caps) .nilFunc).run Try.prog w = .ok false w := fun d => by
    simp [Op.equalIn, run_underlying Try.underlying93]
  simp only [binOp]
  simp [Op.equal, Op.maxDepth, h 9999]
theorem is_nilfunc (w : World) : (binOp .eql 93 .nilFunc .nilFunc).run Try.prog w = .ok (.bool true) w := by
  have h : ∀ d : Nat, (Op.equalIn (d + 1) 93 .nilFunc .nilFunc).run Try.prog w = .ok true w := fun d => by
    simp [Op.equalIn, run_underlying Try.underlying93]
  simp only [binOp]
  simp [Op.equal, Op.maxDepth, h 9999]
/-- An error is answered. -/
def RunBad (c : Int) (w : World) (e : Ending) (w' : World) : Prop := e = .returned (.tuple #[.agg #[.int .u64 0, .int .u64 0], .int .i64 c]) ∧ Below w.heap.size w w'
set_option maxHeartbeats 2000000 in
theorem run_code (x : Ci) (A B : Option Addr) (N cp n cq : Nat) (sh : Int) (fv : Value) (h : x.code ≠ 0) (w : World) : Calls Try.prog 44 #[cvl x, .slice A N cp, .slice B n cq, .int .i64 sh, fv] w (RunBad x.code w) := by
  unfold RunBad
  obtain ⟨k, f, b, l, W, c⟩ := x
  have hC := fun w => ccheck_any k f b l W c w
  unfold cvl
  generalize (Ci.mk k f b l W c).code = z at *
  have h1 : (z != 0) = true := by simpa using h
  replace hC := Lib.hid hC
  clear h
  go_enter Try.func44, Try.ntmps44
  go_upto_region 1 with (fail)
  refine name_wp (fun w1 => Below w.heap.size w w1 ∧ w1.heap[w.heap.size]? = some (.cells #[.int .u8 k, .int .u8 f, .int .i64 b, .int .i64 l, .int .i64 W, .int .i64 c] 25 (0, 0)) ∧ Holds w1 (w.heap.size + 1) 0) ⟨((Below.refl _ _).alloc (Nat.le_refl _) _).alloc (by simp) _, alloc_keeps (alloc_at rfl), alloc_at (by simp)⟩ ?_
  rintro w1 ⟨hb, k0, kr⟩
  obtain ⟨c0, c1, c2, c3, c4, c5⟩ := blk6 k0
  go_wp2_with fail
  refine call_then (hC.out _) ?_
  intro w2 hv
  replace hb := below_next hb hb.size hv
  replace k0 := keeps hv k0
  replace kr := kr.up hv
  clear hv c0 c1 c2 c3 c4 c5
  obtain ⟨c0, c1, c2, c3, c4, c5⟩ := blk6 k0
  obtain ⟨t0, t1, t2, t3⟩ := blk2 kr
  go_wp2
  obtain ⟨p2, q2, _, _⟩ := blk2 (kr.set 0)
  rw [show lo 0 = 0 from rfl, show hi 0 = 0 from rfl] at p2 q2
  exact bodyPost_ret (v := .tuple #[.agg #[.int .u64 0, .int .u64 0], .int .i64 (z)]) (by simp [results, Try.results44, go_sem, p2, q2]) rfl ⟨rfl, below_store2 hb (Nat.le_succ _)⟩
set_option maxHeartbeats 2000000 in
theorem run_nil (x : Ci) (A B : Option Addr) (N cp n cq : Nat) (sh : Int) (h : x.Good) (w : World) : Calls Try.prog 44 #[cvl x, .slice A N cp, .slice B n cq, .int .i64 sh, .nilFunc] w (RunBad 1 w) := by
  unfold RunBad
  have hz := h.code
  have hnf := is_nilfunc
  obtain ⟨k, f, b, l, W, c⟩ := x
  have hC := fun w => ccheck_any k f b l W c w
  rw [hz] at hC
  unfold cvl
  replace hC := Lib.hid hC
  clear h hz
  go_enter Try.func44, Try.ntmps44
  go_upto_region 1 with (fail)
  refine name_wp (fun w1 => Below w.heap.size w w1 ∧ w1.heap[w.heap.size]? = some (.cells #[.int .u8 k, .int .u8 f, .int .i64 b, .int .i64 l, .int .i64 W, .int .i64 c] 25 (0, 0)) ∧ Holds w1 (w.heap.size + 1) 0) ⟨((Below.refl _ _).alloc (Nat.le_refl _) _).alloc (by simp) _, alloc_keeps (alloc_at rfl), alloc_at (by simp)⟩ ?_
  rintro w1 ⟨hb, k0, kr⟩
  obtain ⟨c0, c1, c2, c3, c4, c5⟩ := blk6 k0
  go_wp2_with fail
  refine call_then (hC.out _) ?_
  intro w2 hv
  replace hb := below_next hb hb.size hv
  replace k0 := keeps hv k0
  replace kr := kr.up hv
  clear hv c0 c1 c2 c3 c4 c5
  obtain ⟨c0, c1, c2, c3, c4, c5⟩ := blk6 k0
  obtain ⟨t0, t1, t2, t3⟩ := blk2 kr
  go_wp2
  obtain ⟨p2, q2, _, _⟩ := blk2 (kr.set 0)
  rw [show lo 0 = 0 from rfl, show hi 0 = 0 from rfl] at p2 q2
  exact bodyPost_ret (v := .tuple #[.agg #[.int .u64 0, .int .u64 0], .int .i64 (1)]) (by simp [results, Try.results44, go_sem, p2, q2]) rfl ⟨rfl, below_store2 hb (Nat.le_succ _)⟩
set_option maxHeartbeats 2000000 in
theorem run_size (x : Ci) (A B : Option Addr) (N cp n cq : Nat) (sh : Int) (F : FuncId) (caps : Array Value) (h : x.Good) (hN : N ≠ x.inN ∨ n ≠ x.jointN) (w : World) : Calls Try.prog 44 #[cvl x, .slice A N cp, .slice B n cq, .int .i64 sh, .func (.func F) #[] caps] w (RunBad 9 w) := by
  unfold RunBad
  have hz := h.code
  have hnf := is_func F caps
  have hJ := fun w => joint_any x h w
  obtain ⟨k, f, b, l, W, c⟩ := x
  have hC := fun w => ccheck_any k f b l W c w
  have hI := fun w => cin_any k f b l W c h.fits w
  rw [hz] at hC
  unfold cvl at *
  generalize (Ci.mk k f b l W c).inN = I at *
  generalize (Ci.mk k f b l W c).jointN = J at *
  replace hC := Lib.hid hC
  replace hI := Lib.hid hI
  replace hJ := Lib.hid hJ
  clear h hz
  by_cases hNI : N = I
  · have b1 : ((N : Int) != (I : Int)) = false := by simp; omega
    have b2 : ((n : Int) != (J : Int)) = true := by simp; omega
    clear hN hNI
    go_enter Try.func44, Try.ntmps44
    go_upto_region 1 with (fail)
    refine name_wp (fun w1 => Below w.heap.size w w1 ∧ w1.heap[w.heap.size]? = some (.cells #[.int .u8 k, .int .u8 f, .int .i64 b, .int .i64 l, .int .i64 W, .int .i64 c] 25 (0, 0)) ∧ Holds w1 (w.heap.size + 1) 0) ⟨((Below.refl _ _).alloc (Nat.le_refl _) _).alloc (by simp) _, alloc_keeps (alloc_at rfl), alloc_at (by simp)⟩ ?_
    rintro w1 ⟨hb, k0, kr⟩
    obtain ⟨c0, c1, c2, c3, c4, c5⟩ := blk6 k0
    go_wp2_with fail
    refine call_then (hC.out _) ?_
    intro w2 hv
    replace hb := below_next hb hb.size hv
    replace k0 := keeps hv k0
    replace kr := kr.up hv
    clear hv c0 c1 c2 c3 c4 c5
    obtain ⟨c0, c1, c2, c3, c4, c5⟩ := blk6 k0
    go_wp2_with fail
    refine call_then (hI.out _) ?_
    intro w3 hv
    replace hb := below_next hb hb.size hv
    replace k0 := keeps hv k0
    replace kr := kr.up hv
    clear hv c0 c1 c2 c3 c4 c5
    obtain ⟨c0, c1, c2, c3, c4, c5⟩ := blk6 k0
    go_wp2_with fail
    refine call_then (hJ.out _) ?_
    intro w4 hv
    replace hb := below_next hb hb.size hv
    replace k0 := keeps hv k0
    replace kr := kr.up hv
    clear hv c0 c1 c2 c3 c4 c5
    obtain ⟨c0, c1, c2, c3, c4, c5⟩ := blk6 k0
    obtain ⟨t0, t1, t2, t3⟩ := blk2 kr
    go_wp2
    obtain ⟨p2, q2, _, _⟩ := blk2 (kr.set 0)
    rw [show lo 0 = 0 from rfl, show hi 0 = 0 from rfl] at p2 q2
    exact bodyPost_ret (v := .tuple #[.agg #[.int .u64 0, .int .u64 0], .int .i64 (9)]) (by simp [results, Try.results44, go_sem, p2, q2]) rfl ⟨rfl, below_store2 hb (Nat.le_succ _)⟩
  · have b1 : ((N : Int) != (I : Int)) = true := by simp; omega
    clear hN hNI
    go_enter Try.func44, Try.ntmps44
    go_upto_region 1 with (fail)
    refine name_wp (fun w1 => Below w.heap.size w w1 ∧ w1.heap[w.heap.size]? = some (.cells #[.int .u8 k, .int .u8 f, .int .i64 b, .int .i64 l, .int .i64 W, .int .i64 c] 25 (0, 0)) ∧ Holds w1 (w.heap.size + 1) 0) ⟨((Below.refl _ _).alloc (Nat.le_refl _) _).alloc (by simp) _, alloc_keeps (alloc_at rfl), alloc_at (by simp)⟩ ?_
    rintro w1 ⟨hb, k0, kr⟩
    obtain ⟨c0, c1, c2, c3, c4, c5⟩ := blk6 k0
    go_wp2_with fail
    refine call_then (hC.out _) ?_
    intro w2 hv
    replace hb := below_next hb hb.size hv
    replace k0 := keeps hv k0
    replace kr := kr.up hv
    clear hv c0 c1 c2 c3 c4 c5
    obtain ⟨c0, c1, c2, c3, c4, c5⟩ := blk6 k0
    go_wp2_with fail
    refine call_then (hI.out _) ?_
    intro w3 hv
    replace hb := below_next hb hb.size hv
    replace k0 := keeps hv k0
    replace kr := kr.up hv
    clear hv c0 c1 c2 c3 c4 c5
    obtain ⟨c0, c1, c2, c3, c4, c5⟩ := blk6 k0
    obtain ⟨t0, t1, t2, t3⟩ := blk2 kr
    go_wp2
    obtain ⟨p2, q2, _, _⟩ := blk2 (kr.set 0)
    rw [show lo 0 = 0 from rfl, show hi 0 = 0 from rfl] at p2 q2
    exact bodyPost_ret (v := .tuple #[.agg #[.int .u64 0, .int .u64 0], .int .i64 (9)]) (by simp [results, Try.results44, go_sem, p2, q2]) rfl ⟨rfl, below_store2 hb (Nat.le_succ _)⟩
end Go.Proofs.Ytgdokfchfgnbbaa
