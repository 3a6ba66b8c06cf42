/-
  Bits as elements.
-/
import Derived.Test.YtgdokfchfgnbbaaCjB
namespace Go.Proofs.Ytgdokfchfgnbbaa
open Go.RowKit Flow F
set_option linter.unusedVariables false
set_option linter.unusedSimpArgs false

/-- What is asked of a field. -/
structure Fb (f : Int) : Prop where
  one2 : f = 1 ∨ f = 2
  hval : ∀ w, Calls Try.prog 55 #[.int .u8 f] w fun e w' => e = .returned (.bool true) ∧ Below w.heap.size w w'
  hone : ∀ w, Calls Try.prog 68 #[.int .u8 f] w fun e w' => e = .returned (.agg #[.int .u64 1, .int .u64 0]) ∧ Below w.heap.size w w'
  hmul : OpBy 85 f (mul f)
  hadd : OpBy 52 f (add f)
  hsub : OpBy 51 f (sub f)
  hof : ∀ n : Int, 0 ≤ n → n < 18446744069414584321 → ∀ w, Calls Try.prog 69 #[.int .u8 f, .int .u64 n] w fun e w' => e = .returned (.agg #[.int .u64 (lo n), .int .u64 (hi n)]) ∧ Below w.heap.size w w'
theorem fb_one : Fb 1 := by
  refine ⟨.inl rfl, fvalid_one, fone_any 1 (.inl rfl), opBy_mul1, opBy_add1, opBy_sub1, fun n n0 n1 w => ?_⟩
  have h := fof_one n n0 (by omega) w
  rw [redu_of_lt n0 (by rw [M1]; exact n1)] at h
  exact h
theorem fb_two : Fb 2 := by
  refine ⟨.inr rfl, fvalid_two, fone_any 2 (.inr rfl), opBy_mul2, opBy_add2, opBy_sub2, fun n n0 n1 w => ?_⟩
  have h := fof_two n n0 (by omega) w
  rw [redu_of_lt n0 (by have : M 2 = 340282366920938462946865773367900766209 := rfl; omega)] at h
  exact h
theorem fb_of {f : Int} (h : f = 1 ∨ f = 2) : Fb f := by
  rcases h with rfl | rfl
  · exact fb_one
  · exact fb_two
/-- A number's bits, the lowest first. -/
def bitN (n i : Nat) : Nat := n / 2 ^ i % 2
def bitsL (n m : Nat) : List Int := (List.range m).map fun i => (bitN n i : Int)
theorem bitsL_length (n m : Nat) : (bitsL n m).length = m := by simp [bitsL]
theorem bitsL_at (n : Nat) {m k : Nat} (h : k < m) : (bitsL n m).getD k 0 = (bitN n k : Int) := by simp [bitsL, h]
theorem bitsL_snoc (n m : Nat) : bitsL n (m + 1) = bitsL n m ++ [(bitN n m : Int)] := by simp [bitsL, List.range_succ]
theorem bitN_lt (n i : Nat) : bitN n i < 2 := Nat.mod_lt _ (by decide)
theorem below_store2' {B : Nat} {a w : World} {b i k : Nat} {u v : Value} (h : Below B a w) (hb : B ≤ b) : Below B a ((w.setCell ⟨b, i, none⟩ u).setCell ⟨b, k, none⟩ v) := (h.setCell hb _).setCell hb _
theorem store2_farx {w : World} {b c i j : Nat} {o : Obj} {u v : Value} (h : w.heap[b]? = some o) (hbc : b ≠ c) : ((w.setCell ⟨c, i, none⟩ u).setCell ⟨c, j, none⟩ v).heap[b]? = some o := store_far (store_far h hbc) hbc
def BitsOut (n m : Nat) (w : World) (e : Ending) (w' : World) : Prop := ∃ g, e = .returned (.slice (some ⟨g, 0, none⟩) m m) ∧ Below w.heap.size w w' ∧ w.heap.size ≤ g ∧ Row w' g (bitsL n m)
set_option maxHeartbeats 1000000 in
theorem bitsOf_any (x : Ci) (h : x.Good) (n m : Nat) (hn : n < 18446744073709551616) (hm : m ≤ 64) (w : World) : Calls Try.prog 67 #[cvl x, .int .u64 (n : Int), .int .i64 (m : Int)] w (BitsOut n m w) := by
  have hmk := make_elems m (by omega)
  have fb := fb_of h.f
  obtain ⟨k, f, b, l, W, c⟩ := x
  have hof := fb.hof
  unfold cvl BitsOut
  simp only at *
  replace hof := Lib.hid hof
  clear h fb
  go_enter Try.func67, Try.ntmps67
  go_upto_region 1 with (fail)
  refine name_wp (fun w1 => Below w.heap.size w w1 ∧ w1.heap[w.heap.size]? = some (.cells #[.int .u8 k, .int .u8 f, .int .i64 b, .int .i64 l, .int .i64 W, .int .i64 c] 25 (0, 0))) ⟨(Below.refl _ _).alloc (Nat.le_refl _) _, alloc_at rfl⟩ ?_
  rintro w1 ⟨hb, k0⟩
  go_wp2
  refine name_wp (fun w2 => Below w.heap.size w w2 ∧ w2.heap[w.heap.size]? = some (.cells #[.int .u8 k, .int .u8 f, .int .i64 b, .int .i64 l, .int .i64 W, .int .i64 c] 25 (0, 0)) ∧ Row w2 w1.heap.size (bitsL n 0 ++ List.replicate (m - 0) 0)) ⟨hb.alloc hb.size _, alloc_keeps k0, (show Row _ _ (List.replicate m 0) from alloc_at rfl)⟩ ?_
  have hg := hb.size
  have hgl := lt_of_get k0
  generalize w1.heap.size = g at *
  clear hb k0 hmk
  rintro w2 ⟨hb, k0, hr⟩
  have hgw := Lib.hid hg
  have hgl2 := Lib.hid hgl
  clear hg hgl
  go_loopw [13] (fun i wr => ∃ j : Nat, j ≤ m ∧ i = .int .i64 (j : Int) ∧ Below w.heap.size w wr ∧ wr.heap[w.heap.size]? = some (.cells #[.int .u8 k, .int .u8 f, .int .i64 b, .int .i64 l, .int .i64 W, .int .i64 c] 25 (0, 0)) ∧ Row wr g (bitsL n j ++ List.replicate (m - j) 0)) (fun i _ => m - (intOf i).toNat)
  case atStart => exact ⟨0, Nat.zero_le _, rfl, hb, k0, hr⟩
  case round =>
    clear hb k0 hr
    obtain ⟨j, hj, rfl, hb, k0, hr⟩ := hrel
    obtain ⟨c0, c1, c2, c3, c4, c5⟩ := blk6 k0
    by_cases hlt : j < m
    · have hlen : j < (bitsL n j ++ List.replicate (m - j) 0).length := by simp [bitsL]; omega
      have hset : (bitsL n j ++ List.replicate (m - j) 0).set j (bitN n j : Int) = bitsL n (j + 1) ++ List.replicate (m - (j + 1)) 0 := by
        rw [List.set_append_right _ _ (by simp [bitsL])]
        rw [bitsL_length, Nat.sub_self, show m - j = (m - (j + 1)) + 1 by omega, List.replicate_succ, List.set_cons_zero, bitsL_snoc]
        simp
      have hbl := bitN_lt n j
      have hc := hof.out (bitN n j : Int) (by omega) (by omega)
      have hq : (((n / 2 ^ j : Nat)) : Int) = (n : Int) / 2 ^ j := by rw [Int.natCast_ediv, Int.natCast_pow]; rfl
      have hq1 : n / 2 ^ j ≤ n := Nat.div_le_self _ _
      have hbit : bits .and .u64 ((n : Int) / 2 ^ j) 1 = (bitN n j : Int) := by
        rw [← hq]
        show bits .and .u64 ((n / 2 ^ j : Nat) : Int) 1 = ((n / 2 ^ j % 2 : Nat) : Int)
        clear hq hc
        generalize n / 2 ^ j = q at *
        rw [and_one (by omega) (by omega)]
        omega
      generalize bitN n j = B at *
      replace hset := Lib.hid hset
      replace hc := Lib.hid hc
      have s0 := hr.lo hlen
      have s1 := hr.hi hlen
      have f0 := hr.free (j * 2)
      have f1 := hr.free (j * 2 + 1)
      replace hlen := Lib.hid hlen
      clear hq hq1 hbl
      go_wp2_with fail
      refine call_then (hc.out _) ?_
      intro w3 hw
      have hb3 := below_next hb hb.size hw
      have hr3 := hr.up hw
      have k3 := keeps hw k0
      have t0 := hr3.lo hlen.out
      have t1 := hr3.hi hlen.out
      have g0 := hr3.free (j * 2)
      have g1 := hr3.free (j * 2 + 1)
      have hr4 := hr3.set hlen.out (B : Int)
      rw [hset.out] at hr4
      have hb4 := below_store2' hb3 hgw.out (u := .int .u64 (lo (B : Int))) (v := .int .u64 (hi (B : Int))) (i := j * 2) (k := j * 2 + 1)
      have k4 := store2_farx k3 (show w.heap.size ≠ g by have := hgl2.out; omega) (u := .int .u64 (lo (B : Int))) (v := .int .u64 (hi (B : Int))) (i := j * 2) (j := j * 2 + 1)
      clear hw hb3 hr3 k3 hb k0 hr c0 c1 c2 c3 c4 c5 s0 s1 f0 f1 hc
      go_wp2
      exact ⟨⟨j + 1, by omega, by go_num, hb4, k4, hr4⟩, by simp [intOf]; omega⟩
    · obtain rfl : m = j := by omega
      rw [Nat.sub_self, List.replicate_zero, List.append_nil] at hr
      go_wp2
      go_ret
      exact ⟨g, rfl, hb, hgw.out, hr⟩
end Go.Proofs.Ytgdokfchfgnbbaa
