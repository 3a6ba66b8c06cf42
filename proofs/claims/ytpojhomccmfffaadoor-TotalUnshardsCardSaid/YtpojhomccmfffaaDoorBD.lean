import Derived.Test.YtpojhomccmfffaaDoorBB
import Derived.Test.YtpojhomccmfffaaDoorBC
import Derived.Test.YtpojhomccmfffaaDoorBA
import Derived.Test.YtpojhomccmfffaaDoorRows
import Derived.Laws.AppendOwn
import Derived.Laws.BytesArg
import Derived.OwnWalk
import Derived.Below
/-
  Contracts of package field: each of the two fields' sums, products, roots.
-/
namespace Go.Proofs.YtpojhomccmfffaaDoor
open Go.RowKit F Flow
set_option linter.unusedVariables false
attribute [local go_sem] eql_elem

theorem redu_lo1 (a : Int) : redu 1 (lo a) = redu 1 a := by unfold redu; rw [if_pos rfl, if_pos rfl, lo_lo]
theorem add_lo1 (a b : Int) : add 1 (lo a) (lo b) = add 1 a b := by unfold add; rw [redu_lo1, redu_lo1]
theorem sub_lo1 (a b : Int) : sub 1 (lo a) (lo b) = sub 1 a b := by unfold sub; rw [redu_lo1, redu_lo1]
theorem mul_lo1 (a b : Int) : mul 1 (lo a) (lo b) = mul 1 a b := by unfold mul; rw [redu_lo1, redu_lo1]
theorem neg_lo1 (a : Int) : neg 1 (lo a) = neg 1 a := by unfold neg; rw [redu_lo1]
theorem pow_lo1 (a : Int) (n : Nat) : pow 1 (lo a) n = pow 1 a n := by unfold pow; rw [redu_lo1]
theorem gadd_below (a b : Int) (h0 : 0 ≤ a) (h1 : a < 18446744073709551616) (h2 : 0 ≤ b) (h3 : b < 18446744073709551616) (w : World) :
    Calls Tryd.prog 128 #[.int .u64 a, .int .u64 b] w fun e w' => e = .returned (.int .u64 (add 1 a b)) ∧ Below w.heap.size w w' :=
  (gadd_any a b h0 h1 h2 h3 w).mono fun _ _ ⟨he, hw⟩ => ⟨he, below_of_same hw⟩
theorem gsub_below (a b : Int) (h0 : 0 ≤ a) (h1 : a < 18446744073709551616) (h2 : 0 ≤ b) (h3 : b < 18446744073709551616) (w : World) :
    Calls Tryd.prog 100 #[.int .u64 a, .int .u64 b] w fun e w' => e = .returned (.int .u64 (sub 1 a b)) ∧ Below w.heap.size w w' :=
  (gsub_any a b h0 h1 h2 h3 w).mono fun _ _ ⟨he, hw⟩ => ⟨he, below_of_same hw⟩
theorem gneg_below (a : Int) (h0 : 0 ≤ a) (h1 : a < 18446744073709551616) (w : World) :
    Calls Tryd.prog 141 #[.int .u64 a] w fun e w' => e = .returned (.int .u64 (neg 1 a)) ∧ Below w.heap.size w w' :=
  (gneg_any a h0 h1 w).mono fun _ _ ⟨he, hw⟩ => ⟨he, below_of_same hw⟩
theorem gof_below (a : Int) (h0 : 0 ≤ a) (h1 : a < 18446744073709551616) (w : World) :
    Calls Tryd.prog 94 #[.int .u64 a] w fun e w' => e = .returned (.int .u64 (redu 1 a)) ∧ Below w.heap.size w w' :=
  (gof_any a h0 h1 w).mono fun _ _ ⟨he, hw⟩ => ⟨he, below_of_same hw⟩

theorem fadd_one (a b : Int) (w : World) :
    Calls Tryd.prog 99 #[.int .u8 1, .agg #[.int .u64 (lo a), .int .u64 (hi a)], .agg #[.int .u64 (lo b), .int .u64 (hi b)]] w fun e w' => e = .returned (.agg #[.int .u64 (lo (add 1 a b)), .int .u64 (hi (add 1 a b))]) ∧ Below w.heap.size w w' := by
  have h := gadd_below (lo a) (lo b) (lo_nonneg a) (lo_lt a) (lo_nonneg b) (lo_lt b)
  rw [add_lo1 a b] at h
  have hr := add_bound 1 a b
  rw [M1] at hr
  rw [lo_of_lt hr.1 (by omega), hi_of_lt hr.1 (by omega)]
  generalize add 1 a b = z at *
  clear hr
  replace h := Lib.hid h
  go_enter Tryd.func99, Tryd.ntmps99
  go_wp2_with fail
  refine name_calls (fun w1 => Below w.heap.size w w1 ∧ w1.heap[w.heap.size]? = some (.cells #[.int .u64 (lo a), .int .u64 (hi a)] 65 (0, 0)) ∧ w1.heap[w.heap.size + 1]? = some (.cells #[.int .u64 (lo b), .int .u64 (hi b)] 65 (0, 0)) ∧ w1.heap[w.heap.size + 1 + 1]? = some (.cells #[.int .u64 0, .int .u64 0] 65 (0, 0)))
    ⟨(((Below.refl _ _).alloc (Nat.le_refl _) _).alloc (by simp) _).alloc (by simp; omega) _, alloc_keeps (alloc_keeps (alloc_at rfl)), alloc_keeps (alloc_at (by simp)), alloc_at (by simp)⟩ ?_
  rintro w1 ⟨b1, k0, k1, k2⟩
  refine call_then (h.out _) ?_
  intro w2 hw2
  replace b1 := below_next b1 b1.size hw2
  replace k2 := keeps hw2 k2
  clear hw2 k0 k1
  obtain ⟨c0, d0, f0, g0⟩ := blk2 k2
  go_wp2
  obtain ⟨c2, d2, _, _⟩ := blk2 (store2 (u := .int .u64 z) (v := .int .u64 0) k2)
  exact bodyPost_ret (v := .agg #[.int .u64 z, .int .u64 0]) (by simp [results, Tryd.results99, go_sem, c2, d2]) rfl ⟨rfl, below_store2 b1 (by omega)⟩
theorem fadd_two (a b : Int) (a0 : 0 ≤ a) (a1 : a < 340282366920938463463374607431768211456) (b0 : 0 ≤ b) (b1 : b < 340282366920938463463374607431768211456) (w : World) :
    Calls Tryd.prog 99 #[.int .u8 2, .agg #[.int .u64 (lo a), .int .u64 (hi a)], .agg #[.int .u64 (lo b), .int .u64 (hi b)]] w fun e w' => e = .returned (.agg #[.int .u64 (lo (add 2 a b)), .int .u64 (hi (add 2 a b))]) ∧ Below w.heap.size w w' := by
  have h := Lib.hid (wadd_any a b a0 a1 b0 b1)
  clear a0 a1 b0 b1
  go_enter Tryd.func99, Tryd.ntmps99
  go_wp2_with fail
  refine name_calls (fun w1 => Below w.heap.size w w1 ∧ w1.heap[w.heap.size]? = some (.cells #[.int .u64 (lo a), .int .u64 (hi a)] 65 (0, 0)) ∧ w1.heap[w.heap.size + 1]? = some (.cells #[.int .u64 (lo b), .int .u64 (hi b)] 65 (0, 0)) ∧ w1.heap[w.heap.size + 1 + 1]? = some (.cells #[.int .u64 0, .int .u64 0] 65 (0, 0)))
    ⟨(((Below.refl _ _).alloc (Nat.le_refl _) _).alloc (by simp) _).alloc (by simp; omega) _, alloc_keeps (alloc_keeps (alloc_at rfl)), alloc_keeps (alloc_at (by simp)), alloc_at (by simp)⟩ ?_
  rintro w1 ⟨b1, k0, k1, k2⟩
  refine call_then (h.out _) ?_
  intro w2 hw2
  replace b1 := below_next b1 b1.size hw2
  replace k2 := keeps hw2 k2
  clear hw2 k0 k1
  obtain ⟨c0, d0, f0, g0⟩ := blk2 k2
  go_wp2
  obtain ⟨c2, d2, _, _⟩ := blk2 (store2 (u := .int .u64 (lo (add 2 a b))) (v := .int .u64 (hi (add 2 a b))) k2)
  exact bodyPost_ret (v := .agg #[.int .u64 (lo (add 2 a b)), .int .u64 (hi (add 2 a b))]) (by simp [results, Tryd.results99, go_sem, c2, d2]) rfl ⟨rfl, below_store2 b1 (by omega)⟩
theorem fsub_one (a b : Int) (w : World) :
    Calls Tryd.prog 65 #[.int .u8 1, .agg #[.int .u64 (lo a), .int .u64 (hi a)], .agg #[.int .u64 (lo b), .int .u64 (hi b)]] w fun e w' => e = .returned (.agg #[.int .u64 (lo (sub 1 a b)), .int .u64 (hi (sub 1 a b))]) ∧ Below w.heap.size w w' := by
  have h := gsub_below (lo a) (lo b) (lo_nonneg a) (lo_lt a) (lo_nonneg b) (lo_lt b)
  rw [sub_lo1 a b] at h
  have hr := sub_bound 1 a b
  rw [M1] at hr
  rw [lo_of_lt hr.1 (by omega), hi_of_lt hr.1 (by omega)]
  generalize sub 1 a b = z at *
  clear hr
  replace h := Lib.hid h
  go_enter Tryd.func65, Tryd.ntmps65
  go_wp2_with fail
  refine name_calls (fun w1 => Below w.heap.size w w1 ∧ w1.heap[w.heap.size]? = some (.cells #[.int .u64 (lo a), .int .u64 (hi a)] 65 (0, 0)) ∧ w1.heap[w.heap.size + 1]? = some (.cells #[.int .u64 (lo b), .int .u64 (hi b)] 65 (0, 0)) ∧ w1.heap[w.heap.size + 1 + 1]? = some (.cells #[.int .u64 0, .int .u64 0] 65 (0, 0)))
    ⟨(((Below.refl _ _).alloc (Nat.le_refl _) _).alloc (by simp) _).alloc (by simp; omega) _, alloc_keeps (alloc_keeps (alloc_at rfl)), alloc_keeps (alloc_at (by simp)), alloc_at (by simp)⟩ ?_
  rintro w1 ⟨b1, k0, k1, k2⟩
  refine call_then (h.out _) ?_
  intro w2 hw2
  replace b1 := below_next b1 b1.size hw2
  replace k2 := keeps hw2 k2
  clear hw2 k0 k1
  obtain ⟨c0, d0, f0, g0⟩ := blk2 k2
  go_wp2
  obtain ⟨c2, d2, _, _⟩ := blk2 (store2 (u := .int .u64 z) (v := .int .u64 0) k2)
  exact bodyPost_ret (v := .agg #[.int .u64 z, .int .u64 0]) (by simp [results, Tryd.results65, go_sem, c2, d2]) rfl ⟨rfl, below_store2 b1 (by omega)⟩
theorem fsub_two (a b : Int) (a0 : 0 ≤ a) (a1 : a < 340282366920938463463374607431768211456) (b0 : 0 ≤ b) (b1 : b < 340282366920938463463374607431768211456) (w : World) :
    Calls Tryd.prog 65 #[.int .u8 2, .agg #[.int .u64 (lo a), .int .u64 (hi a)], .agg #[.int .u64 (lo b), .int .u64 (hi b)]] w fun e w' => e = .returned (.agg #[.int .u64 (lo (sub 2 a b)), .int .u64 (hi (sub 2 a b))]) ∧ Below w.heap.size w w' := by
  have h := Lib.hid (wsub_any a b a0 a1 b0 b1)
  clear a0 a1 b0 b1
  go_enter Tryd.func65, Tryd.ntmps65
  go_wp2_with fail
  refine name_calls (fun w1 => Below w.heap.size w w1 ∧ w1.heap[w.heap.size]? = some (.cells #[.int .u64 (lo a), .int .u64 (hi a)] 65 (0, 0)) ∧ w1.heap[w.heap.size + 1]? = some (.cells #[.int .u64 (lo b), .int .u64 (hi b)] 65 (0, 0)) ∧ w1.heap[w.heap.size + 1 + 1]? = some (.cells #[.int .u64 0, .int .u64 0] 65 (0, 0)))
    ⟨(((Below.refl _ _).alloc (Nat.le_refl _) _).alloc (by simp) _).alloc (by simp; omega) _, alloc_keeps (alloc_keeps (alloc_at rfl)), alloc_keeps (alloc_at (by simp)), alloc_at (by simp)⟩ ?_
  rintro w1 ⟨b1, k0, k1, k2⟩
  refine call_then (h.out _) ?_
  intro w2 hw2
  replace b1 := below_next b1 b1.size hw2
  replace k2 := keeps hw2 k2
  clear hw2 k0 k1
  obtain ⟨c0, d0, f0, g0⟩ := blk2 k2
  go_wp2
  obtain ⟨c2, d2, _, _⟩ := blk2 (store2 (u := .int .u64 (lo (sub 2 a b))) (v := .int .u64 (hi (sub 2 a b))) k2)
  exact bodyPost_ret (v := .agg #[.int .u64 (lo (sub 2 a b)), .int .u64 (hi (sub 2 a b))]) (by simp [results, Tryd.results65, go_sem, c2, d2]) rfl ⟨rfl, below_store2 b1 (by omega)⟩
theorem fmul_one (a b : Int) (w : World) :
    Calls Tryd.prog 127 #[.int .u8 1, .agg #[.int .u64 (lo a), .int .u64 (hi a)], .agg #[.int .u64 (lo b), .int .u64 (hi b)]] w fun e w' => e = .returned (.agg #[.int .u64 (lo (mul 1 a b)), .int .u64 (hi (mul 1 a b))]) ∧ Below w.heap.size w w' := by
  have h := gmul_any (lo a) (lo b) (lo_nonneg a) (lo_lt a) (lo_nonneg b) (lo_lt b)
  rw [mul_lo1 a b] at h
  have hr := mul_bound 1 a b
  rw [M1] at hr
  rw [lo_of_lt hr.1 (by omega), hi_of_lt hr.1 (by omega)]
  generalize mul 1 a b = z at *
  clear hr
  replace h := Lib.hid h
  go_enter Tryd.func127, Tryd.ntmps127
  go_wp2_with fail
  refine name_calls (fun w1 => Below w.heap.size w w1 ∧ w1.heap[w.heap.size]? = some (.cells #[.int .u64 (lo a), .int .u64 (hi a)] 65 (0, 0)) ∧ w1.heap[w.heap.size + 1]? = some (.cells #[.int .u64 (lo b), .int .u64 (hi b)] 65 (0, 0)) ∧ w1.heap[w.heap.size + 1 + 1]? = some (.cells #[.int .u64 0, .int .u64 0] 65 (0, 0)))
    ⟨(((Below.refl _ _).alloc (Nat.le_refl _) _).alloc (by simp) _).alloc (by simp; omega) _, alloc_keeps (alloc_keeps (alloc_at rfl)), alloc_keeps (alloc_at (by simp)), alloc_at (by simp)⟩ ?_
  rintro w1 ⟨b1, k0, k1, k2⟩
  refine call_then (h.out _) ?_
  intro w2 hw2
  replace b1 := below_next b1 b1.size hw2
  replace k2 := keeps hw2 k2
  clear hw2 k0 k1
  obtain ⟨c0, d0, f0, g0⟩ := blk2 k2
  go_wp2
  obtain ⟨c2, d2, _, _⟩ := blk2 (store2 (u := .int .u64 z) (v := .int .u64 0) k2)
  exact bodyPost_ret (v := .agg #[.int .u64 z, .int .u64 0]) (by simp [results, Tryd.results127, go_sem, c2, d2]) rfl ⟨rfl, below_store2 b1 (by omega)⟩
theorem fmul_two (a b : Int) (a0 : 0 ≤ a) (a1 : a < 340282366920938463463374607431768211456) (b0 : 0 ≤ b) (b1 : b < 340282366920938463463374607431768211456) (w : World) :
    Calls Tryd.prog 127 #[.int .u8 2, .agg #[.int .u64 (lo a), .int .u64 (hi a)], .agg #[.int .u64 (lo b), .int .u64 (hi b)]] w fun e w' => e = .returned (.agg #[.int .u64 (lo (mul 2 a b)), .int .u64 (hi (mul 2 a b))]) ∧ Below w.heap.size w w' := by
  have h := Lib.hid (wmul_any a b a0 a1 b0 b1)
  clear a0 a1 b0 b1
  go_enter Tryd.func127, Tryd.ntmps127
  go_wp2_with fail
  refine name_calls (fun w1 => Below w.heap.size w w1 ∧ w1.heap[w.heap.size]? = some (.cells #[.int .u64 (lo a), .int .u64 (hi a)] 65 (0, 0)) ∧ w1.heap[w.heap.size + 1]? = some (.cells #[.int .u64 (lo b), .int .u64 (hi b)] 65 (0, 0)) ∧ w1.heap[w.heap.size + 1 + 1]? = some (.cells #[.int .u64 0, .int .u64 0] 65 (0, 0)))
    ⟨(((Below.refl _ _).alloc (Nat.le_refl _) _).alloc (by simp) _).alloc (by simp; omega) _, alloc_keeps (alloc_keeps (alloc_at rfl)), alloc_keeps (alloc_at (by simp)), alloc_at (by simp)⟩ ?_
  rintro w1 ⟨b1, k0, k1, k2⟩
  refine call_then (h.out _) ?_
  intro w2 hw2
  replace b1 := below_next b1 b1.size hw2
  replace k2 := keeps hw2 k2
  clear hw2 k0 k1
  obtain ⟨c0, d0, f0, g0⟩ := blk2 k2
  go_wp2
  obtain ⟨c2, d2, _, _⟩ := blk2 (store2 (u := .int .u64 (lo (mul 2 a b))) (v := .int .u64 (hi (mul 2 a b))) k2)
  exact bodyPost_ret (v := .agg #[.int .u64 (lo (mul 2 a b)), .int .u64 (hi (mul 2 a b))]) (by simp [results, Tryd.results127, go_sem, c2, d2]) rfl ⟨rfl, below_store2 b1 (by omega)⟩
end Go.Proofs.YtpojhomccmfffaaDoor

/-
  Contracts of package field: the rest of one element's.
-/
namespace Go.Proofs.YtpojhomccmfffaaDoor
open Go.RowKit F Flow
set_option linter.unusedVariables false
attribute [local go_sem] eql_elem

theorem fof_one (n : Int) (n0 : 0 ≤ n) (n1 : n < 18446744073709551616) (w : World) :
    Calls Tryd.prog 58 #[.int .u8 1, .int .u64 n] w fun e w' => e = .returned (.agg #[.int .u64 (lo (redu 1 n)), .int .u64 (hi (redu 1 n))]) ∧ Below w.heap.size w w' := by
  have h := gof_below n n0 n1
  have hr := redu1_bound n
  rw [lo_of_lt hr.1 (by omega), hi_of_lt hr.1 (by omega)]
  generalize redu 1 n = z at *
  clear hr
  replace h := Lib.hid h
  go_enter Tryd.func58, Tryd.ntmps58
  go_wp2_with fail
  refine name_calls (fun w1 => Below w.heap.size w w1 ∧ w1.heap[w.heap.size]? = some (.cells #[.int .u64 0, .int .u64 0] 65 (0, 0)))
    ⟨(Below.refl _ _).alloc (Nat.le_refl _) _, alloc_at rfl⟩ ?_
  rintro w1 ⟨b1, k1⟩
  have k0 := k1
  refine call_then (h.out _) ?_
  intro w2 hw2
  replace b1 := below_next b1 b1.size hw2
  replace k1 := keeps hw2 k1
  clear hw2 k0
  obtain ⟨c0, d0, f0, g0⟩ := blk2 k1
  go_wp2
  obtain ⟨c2, d2, _, _⟩ := blk2 (store2 (u := .int .u64 z) (v := .int .u64 0) k1)
  exact bodyPost_ret (v := .agg #[.int .u64 z, .int .u64 0]) (by simp [results, Tryd.results58, go_sem, c2, d2]) rfl ⟨rfl, below_store2 b1 (by omega)⟩
theorem fof_two (n : Int) (n0 : 0 ≤ n) (n1 : n < 18446744073709551616) (w : World) :
    Calls Tryd.prog 58 #[.int .u8 2, .int .u64 n] w fun e w' => e = .returned (.agg #[.int .u64 (lo (redu 2 n)), .int .u64 (hi (redu 2 n))]) ∧ Below w.heap.size w w' := by
  have h := wof_any n n0 (by omega)
  rw [lo_of_lt n0 n1, hi_of_lt n0 n1] at h
  generalize redu 2 n = z at *
  replace h := Lib.hid h
  go_enter Tryd.func58, Tryd.ntmps58
  go_wp2_with fail
  refine name_calls (fun w1 => Below w.heap.size w w1 ∧ w1.heap[w.heap.size]? = some (.cells #[.int .u64 0, .int .u64 0] 65 (0, 0)))
    ⟨(Below.refl _ _).alloc (Nat.le_refl _) _, alloc_at rfl⟩ ?_
  rintro w1 ⟨b1, k1⟩
  have k0 := k1
  refine call_then (h.out _) ?_
  intro w2 hw2
  replace b1 := below_next b1 b1.size hw2
  replace k1 := keeps hw2 k1
  clear hw2 k0
  obtain ⟨c0, d0, f0, g0⟩ := blk2 k1
  go_wp2
  obtain ⟨c2, d2, _, _⟩ := blk2 (store2 (u := .int .u64 (lo z)) (v := .int .u64 (hi z)) k1)
  exact bodyPost_ret (v := .agg #[.int .u64 (lo z), .int .u64 (hi z)]) (by simp [results, Tryd.results58, go_sem, c2, d2]) rfl ⟨rfl, below_store2 b1 (by omega)⟩
theorem fone_any (f : Int) (hf : f = 1 ∨ f = 2) (w : World) :
    Calls Tryd.prog 57 #[.int .u8 f] w fun e w' => e = .returned (.agg #[.int .u64 1, .int .u64 0]) ∧ Below w.heap.size w w' := by
  have h : ∀ w, Calls Tryd.prog 58 #[.int .u8 f, .int .u64 1] w fun e w' => e = .returned (.agg #[.int .u64 1, .int .u64 0]) ∧ Below w.heap.size w w' := by
    intro w
    rcases hf with rfl | rfl
    · exact fof_one 1 (by omega) (by omega) w
    · exact fof_two 1 (by omega) (by omega) w
  clear hf
  replace h := Lib.hid h
  go_enter Tryd.func57, Tryd.ntmps57
  go_wp2_with fail
  refine name_calls (fun w1 => Below w.heap.size w w1 ∧ w1.heap[w.heap.size]? = some (.cells #[.int .u64 0, .int .u64 0] 65 (0, 0)))
    ⟨(Below.refl _ _).alloc (Nat.le_refl _) _, alloc_at rfl⟩ ?_
  rintro w1 ⟨b1, k1⟩
  have k0 := k1
  refine call_then (h.out _) ?_
  intro w2 hw2
  replace b1 := below_next b1 b1.size hw2
  replace k1 := keeps hw2 k1
  clear hw2 k0
  obtain ⟨c0, d0, f0, g0⟩ := blk2 k1
  go_wp2
  obtain ⟨c2, d2, _, _⟩ := blk2 (store2 (u := .int .u64 1) (v := .int .u64 0) k1)
  exact bodyPost_ret (v := .agg #[.int .u64 1, .int .u64 0]) (by simp [results, Tryd.results57, go_sem, c2, d2]) rfl ⟨rfl, below_store2 b1 (by omega)⟩
theorem fin_one (a : Int) (w : World) :
    Calls Tryd.prog 102 #[.int .u8 1, .agg #[.int .u64 (lo a), .int .u64 (hi a)]] w fun e w' => e = .returned (.bool (decide (a < M 1) && decide (0 ≤ a))) ∧ Below w.heap.size w w' := by
  by_cases hh : hi a = 0
  · have hd : (decide (a < M 1) && decide (0 ≤ a)) = decide (lo a < 18446744069414584321) := by
      have e : a = lo a := by unfold lo hi at *; omega
      have := lo_nonneg a
      rw [M1, ← e]
      have h0 : 0 ≤ a := by omega
      simp [h0]
    rw [hd]
    generalize lo a = x at *
    generalize hi a = y at *
    subst hh
    go_enter Tryd.func102, Tryd.ntmps102
    go_wp2_with fail
    refine name_calls (fun w1 => Below w.heap.size w w1) ((Below.refl _ _).alloc (Nat.le_refl _) _) ?_
    intro w1 b1
    refine call_then ((gin_any x _).mono fun _ _ ⟨he, hw⟩ => ⟨he, below_of_same hw⟩) ?_
    intro w2 hw2
    go_wp2
    go_ret
    exact ⟨rfl, below_next b1 b1.size hw2⟩
  · have hd : (decide (a < M 1) && decide (0 ≤ a)) = false := by
      rw [M1]; unfold hi at hh
      by_cases h0 : 0 ≤ a
      · have : ¬ a < 18446744069414584321 := by omega
        simp [this]
      · simp [h0]
    rw [hd]
    have hc : (hi a == 0) = false := by simpa using hh
    clear hh hd
    go_enter Tryd.func102, Tryd.ntmps102
    go_wp2
    go_ret
    exact ⟨rfl, (Below.refl _ _).alloc (Nat.le_refl _) _⟩
theorem fin_two (a : Int) (w : World) :
    Calls Tryd.prog 102 #[.int .u8 2, .agg #[.int .u64 (lo a), .int .u64 (hi a)]] w fun e w' => e = .returned (.bool (decide (a < M 2))) ∧ Below w.heap.size w w' := by
  go_enter Tryd.func102, Tryd.ntmps102
  go_wp2_with fail
  refine name_calls (fun w1 => Below w.heap.size w w1) ((Below.refl _ _).alloc (Nat.le_refl _) _) ?_
  intro w1 b1
  refine call_then (win_any a _) ?_
  intro w2 hw2
  go_wp2
  go_ret
  exact ⟨rfl, below_next b1 b1.size hw2⟩
theorem fsize_one (w : World) : Calls Tryd.prog 76 #[.int .u8 1] w fun e w' => e = .returned (.int .i64 8) ∧ Below w.heap.size w w' := by
  go_enter Tryd.func76, Tryd.ntmps76
  go_wp2
  go_ret
  exact ⟨rfl, Below.refl _ _⟩
theorem fsize_two (w : World) : Calls Tryd.prog 76 #[.int .u8 2] w fun e w' => e = .returned (.int .i64 16) ∧ Below w.heap.size w w' := by
  go_enter Tryd.func76, Tryd.ntmps76
  go_wp2
  go_ret
  exact ⟨rfl, Below.refl _ _⟩
theorem fvalid_one (w : World) : Calls Tryd.prog 90 #[.int .u8 1] w fun e w' => e = .returned (.bool true) ∧ Below w.heap.size w w' := by
  go_enter Tryd.func90, Tryd.ntmps90
  go_wp2
  go_ret
  exact ⟨rfl, Below.refl _ _⟩
theorem fvalid_two (w : World) : Calls Tryd.prog 90 #[.int .u8 2] w fun e w' => e = .returned (.bool true) ∧ Below w.heap.size w w' := by
  go_enter Tryd.func90, Tryd.ntmps90
  go_wp2
  go_ret
  exact ⟨rfl, Below.refl _ _⟩
end Go.Proofs.YtpojhomccmfffaaDoor

/-
  Contracts of package field: the first law's example.
-/
namespace Go.Proofs.YtpojhomccmfffaaDoor
open Go.RowKit F Flow
set_option linter.unusedVariables false
attribute [local go_sem] eql_elem

theorem four {W : World} {ι : Type} {φ : ι → World} (h : Family W ι φ) {b : Nat} {u0 u1 u2 u3 : Value} {t : TypeId} (hk : W.heap[b]? = some (.cells #[u0, u1, u2, u3] t (0, 0))) :
    (∀ i, (φ i).cell? ⟨b, 0, none⟩ = some u0) ∧ (∀ i, (φ i).cell? ⟨b, 1, none⟩ = some u1) ∧ (∀ i, (φ i).cell? ⟨b, 2, none⟩ = some u2) ∧ (∀ i, (φ i).cell? ⟨b, 3, none⟩ = some u3) :=
  ⟨fun i => (blk4 (keeps (h.old i) hk)).1, fun i => (blk4 (keeps (h.old i) hk)).2.1, fun i => (blk4 (keeps (h.old i) hk)).2.2.1, fun i => (blk4 (keeps (h.old i) hk)).2.2.2.1⟩

set_option maxHeartbeats 1000000 in
theorem each_two (w : World) (p q : Nat)
    (hp : w.heap[p]? = some (.cells #[.int .u64 1, .int .u64 0, .int .u64 2, .int .u64 0] 65 (0, 0)))
    (hq : w.heap[q]? = some (.cells #[.int .u64 3, .int .u64 0, .int .u64 4, .int .u64 0] 65 (0, 0))) :
    Calls Tryd.prog 64 #[.int .u8 1, .func (.func 127) #[.int .u8 1] #[], .slice (some ⟨p, 0, none⟩) 2 2, .slice (some ⟨q, 0, none⟩) 2 2] w fun e w' =>
      ∃ l, e = .returned (.tuple #[.slice (some ⟨l, 0, none⟩) 2 2, .int .i64 0]) ∧ Below w.heap.size w w' ∧ w'.heap[l]? = some (.cells #[.int .u64 3, .int .u64 0, .int .u64 8, .int .u64 0] 65 (0, 0)) := by
  have hmk : ∀ w : World, (Instr.makeSlice 35 (.int .i64 2) (.int .i64 2)).run Tryd.prog w = .ok (.slice (some ⟨w.heap.size, 0, none⟩) 2 2) (w.alloc (.cells #[.int .u64 0, .int .u64 0, .int .u64 0, .int .u64 0] 65)) := fun _ => by kernel_rfl
  have m1 : Hid (∀ w, Calls Tryd.prog 127 #[.int .u8 1, .agg #[.int .u64 1, .int .u64 0], .agg #[.int .u64 3, .int .u64 0]] w fun e w' => e = .returned (.agg #[.int .u64 3, .int .u64 0]) ∧ Below w.heap.size w w') := Lib.hid (fmul_one 1 3)
  have m2 : Hid (∀ w, Calls Tryd.prog 127 #[.int .u8 1, .agg #[.int .u64 2, .int .u64 0], .agg #[.int .u64 4, .int .u64 0]] w fun e w' => e = .returned (.agg #[.int .u64 8, .int .u64 0]) ∧ Below w.heap.size w w') := Lib.hid (fmul_one 2 4)
  go_enter Tryd.func64, Tryd.ntmps64
  go_wp2_with fail
  refine call_then (fvalid_one _) ?_
  intro w1 hb
  have kp := keeps hb hp
  have kq := keeps hb hq
  go_wp2
  refine name_wp (fun w2 => Below w.heap.size w w2 ∧ w2.heap[p]? = some (.cells #[.int .u64 1, .int .u64 0, .int .u64 2, .int .u64 0] 65 (0, 0)) ∧ w2.heap[q]? = some (.cells #[.int .u64 3, .int .u64 0, .int .u64 4, .int .u64 0] 65 (0, 0)) ∧
     w2.heap[w1.heap.size]? = some (.cells #[.int .u64 0, .int .u64 0, .int .u64 0, .int .u64 0] 65 (0, 0))) ⟨hb.alloc hb.size _, alloc_keeps kp, alloc_keeps kq, alloc_at rfl⟩ ?_
  have hl := hb.size
  have hpl : p ≠ w1.heap.size := Nat.ne_of_lt (lt_of_get kp)
  have hql : q ≠ w1.heap.size := Nat.ne_of_lt (lt_of_get kq)
  clear hb kp kq hp hq
  generalize w1.heap.size = l at *
  rintro w2 ⟨hb, kp, kq, kl⟩
  refine wp_loop_rounds 3 ?_
  rw [rounds_succ]
  go_wp2
  refine wp_region_flow1 13 (by kernel_rfl) (by kernel_rfl) (by kernel_rfl) ?_
  apply Exists.intro
  refine ⟨fun ι _ φ hφ => ?_, fun wt hwt => ?_⟩
  · obtain ⟨p0, p1, p2, p3⟩ := four hφ kp
    obtain ⟨q0, q1, q2, q3⟩ := four hφ kq
    simp only [List.take_succ_cons, List.take_zero]
    repeat (go_big_quiet_step ((first
      | (go_at_call 127; exact flow_call hφ (m1.out _)))))
    exact wpQuiet_nil rfl
  replace hb := below_next hb hb.size hwt
  replace kp := keeps hwt kp
  replace kq := keeps hwt kq
  replace kl := keeps hwt kl
  clear hwt
  simp only [List.drop_succ_cons, List.drop_zero]
  obtain ⟨c0, c1, c2, c3, f0, f1, f2, f3⟩ := blk4 kl
  go_wp2
  clear c0 c1 c2 c3 f0 f1 f2 f3
  have hb' := below_store2 (u := .int .u64 3) (v := .int .u64 0) hb hl
  have kp' := store2_far (u := .int .u64 3) (v := .int .u64 0) kp hpl
  have kq' := store2_far (u := .int .u64 3) (v := .int .u64 0) kq hql
  have kl' : ((wt.setCell ⟨l, 0, none⟩ (.int .u64 3)).setCell ⟨l, 1, none⟩ (.int .u64 0)).heap[l]? = some (.cells #[.int .u64 3, .int .u64 0, .int .u64 0, .int .u64 0] 65 (0, 0)) := store1 (store1 kl)
  clear hb kp kq kl
  generalize (wt.setCell ⟨l, 0, none⟩ (.int .u64 3)).setCell ⟨l, 1, none⟩ (.int .u64 0) = w3 at *
  have hb := hb'
  have kp := kp'
  have kq := kq'
  have kl := kl'
  clear hb' kp' kq' kl' wt
  rw [rounds_succ]
  go_wp2
  refine wp_region_flow1 13 (by kernel_rfl) (by kernel_rfl) (by kernel_rfl) ?_
  apply Exists.intro
  refine ⟨fun ι _ φ hφ => ?_, fun wt hwt => ?_⟩
  · obtain ⟨p0, p1, p2, p3⟩ := four hφ kp
    obtain ⟨q0, q1, q2, q3⟩ := four hφ kq
    simp only [List.take_succ_cons, List.take_zero]
    repeat (go_big_quiet_step ((first
      | (go_at_call 127; exact flow_call hφ (m2.out _)))))
    exact wpQuiet_nil rfl
  replace hb := below_next hb hb.size hwt
  replace kp := keeps hwt kp
  replace kq := keeps hwt kq
  replace kl := keeps hwt kl
  clear hwt
  simp only [List.drop_succ_cons, List.drop_zero]
  obtain ⟨c0, c1, c2, c3, f0, f1, f2, f3⟩ := blk4 kl
  go_wp2
  clear c0 c1 c2 c3 f0 f1 f2 f3
  have hb' := (hb.setCell (p := ⟨l, 2, none⟩) hl (.int .u64 8)).setCell (p := ⟨l, 3, none⟩) hl (.int .u64 0)
  have kl' : ((wt.setCell ⟨l, 2, none⟩ (.int .u64 8)).setCell ⟨l, 3, none⟩ (.int .u64 0)).heap[l]? = some (.cells #[.int .u64 3, .int .u64 0, .int .u64 8, .int .u64 0] 65 (0, 0)) := store1 (store1 kl)
  clear hb kp kq kl
  generalize (wt.setCell ⟨l, 2, none⟩ (.int .u64 8)).setCell ⟨l, 3, none⟩ (.int .u64 0) = w4 at *
  rw [rounds_succ]
  go_wp2
  go_ret2
  exact ⟨l, rfl, hb', kl'⟩
set_option maxHeartbeats 1000000 in
theorem sum_two (w : World) (l : Nat)
    (h : w.heap[l]? = some (.cells #[.int .u64 3, .int .u64 0, .int .u64 8, .int .u64 0] 65 (0, 0))) :
    Calls Tryd.prog 63 #[.int .u8 1, .slice (some ⟨l, 0, none⟩) 2 2] w fun e w' => e = .returned (.agg #[.int .u64 11, .int .u64 0]) ∧ Below w.heap.size w w' := by
  have m1 : Hid (∀ w, Calls Tryd.prog 99 #[.int .u8 1, .agg #[.int .u64 0, .int .u64 0], .agg #[.int .u64 3, .int .u64 0]] w fun e w' => e = .returned (.agg #[.int .u64 3, .int .u64 0]) ∧ Below w.heap.size w w') := Lib.hid (fadd_one 0 3)
  have m2 : Hid (∀ w, Calls Tryd.prog 99 #[.int .u8 1, .agg #[.int .u64 3, .int .u64 0], .agg #[.int .u64 8, .int .u64 0]] w fun e w' => e = .returned (.agg #[.int .u64 11, .int .u64 0]) ∧ Below w.heap.size w w') := Lib.hid (fadd_one 3 8)
  have hll := lt_of_get h
  go_enter Tryd.func63, Tryd.ntmps63
  go_wp2_with fail
  refine name_wp (fun w2 => Below w.heap.size w w2 ∧ w2.heap[w.heap.size]? = some (.cells #[.int .u64 0, .int .u64 0] 65 (0, 0)) ∧ w2.heap[w.heap.size + 1]? = some (.cells #[.int .u64 0, .int .u64 0] 65 (0, 0)) ∧ w2.heap[l]? = some (.cells #[.int .u64 3, .int .u64 0, .int .u64 8, .int .u64 0] 65 (0, 0)))
    ⟨((Below.refl _ _).alloc (Nat.le_refl _) _).alloc (by simp) _, alloc_keeps (alloc_at rfl), alloc_at (by simp), alloc_keeps (alloc_keeps h)⟩ ?_
  rintro wa ⟨hb, kr, ks, kl⟩
  clear h
  refine wp_loop_rounds 3 ?_
  rw [rounds_succ]
  obtain ⟨c0, c1, c2, c3, f0, f1, f2, f3⟩ := blk4 kl
  obtain ⟨s0, s1, t0, t1⟩ := blk2 ks
  have hbig : w.heap.size + 1 < wa.heap.size := lt_of_get ks
  have hne : w.heap.size + 1 ≠ wa.heap.size := Nat.ne_of_lt hbig
  go_wp2_with fail
  refine name_calls (fun wb => Below w.heap.size w wb ∧ wb.heap[w.heap.size]? = some (.cells #[.int .u64 0, .int .u64 0] 65 (0, 0)) ∧ wb.heap[w.heap.size + 1]? = some (.cells #[.int .u64 0, .int .u64 0] 65 (0, 0)) ∧ wb.heap[l]? = some (.cells #[.int .u64 3, .int .u64 0, .int .u64 8, .int .u64 0] 65 (0, 0)))
    ⟨hb.alloc hb.size _, alloc_keeps kr, alloc_keeps ks, alloc_keeps kl⟩ ?_
  clear c0 c1 c2 c3 f0 f1 f2 f3 s0 s1 t0 t1 hne hbig hb kr ks kl
  rintro wb ⟨hb, kr, ks, kl⟩
  refine call_then (m1.out _) ?_
  intro wc hw
  replace hb := below_next hb hb.size hw
  replace kr := keeps hw kr
  replace ks := keeps hw ks
  replace kl := keeps hw kl
  clear hw
  obtain ⟨s0, s1, t0, t1⟩ := blk2 ks
  go_wp2
  have hb' := below_store2 (u := .int .u64 3) (v := .int .u64 0) hb (Nat.le_succ _)
  have kr' := store2_far (u := .int .u64 3) (v := .int .u64 0) kr (Nat.ne_of_lt (Nat.lt_succ_self _))
  have kl' := store2_far (u := .int .u64 3) (v := .int .u64 0) kl (Nat.ne_of_lt (Nat.lt_succ_of_lt hll))
  have ks' := store2 (u := .int .u64 3) (v := .int .u64 0) ks
  clear hb kr ks kl s0 s1 t0 t1
  generalize (wc.setCell ⟨w.heap.size + 1, 0, none⟩ (.int .u64 3)).setCell ⟨w.heap.size + 1, 1, none⟩ (.int .u64 0) = we at *
  have hb := hb'
  have kr := kr'
  have ks := ks'
  have kl := kl'
  clear hb' kr' ks' kl'
  rw [rounds_succ]
  obtain ⟨c0, c1, c2, c3, f0, f1, f2, f3⟩ := blk4 kl
  obtain ⟨s0, s1, t0, t1⟩ := blk2 ks
  have hbig : w.heap.size + 1 < we.heap.size := lt_of_get ks
  have hne : w.heap.size + 1 ≠ we.heap.size := Nat.ne_of_lt hbig
  go_wp2_with fail
  refine name_calls (fun wb => Below w.heap.size w wb ∧ wb.heap[w.heap.size]? = some (.cells #[.int .u64 0, .int .u64 0] 65 (0, 0)) ∧ wb.heap[w.heap.size + 1]? = some (.cells #[.int .u64 3, .int .u64 0] 65 (0, 0)) ∧ wb.heap[l]? = some (.cells #[.int .u64 3, .int .u64 0, .int .u64 8, .int .u64 0] 65 (0, 0)))
    ⟨hb.alloc hb.size _, alloc_keeps kr, alloc_keeps ks, alloc_keeps kl⟩ ?_
  clear c0 c1 c2 c3 f0 f1 f2 f3 s0 s1 t0 t1 hne hbig hb kr ks kl
  rintro wb ⟨hb, kr, ks, kl⟩
  refine call_then (m2.out _) ?_
  intro wc hw
  replace hb := below_next hb hb.size hw
  replace kr := keeps hw kr
  replace ks := keeps hw ks
  replace kl := keeps hw kl
  clear hw
  obtain ⟨s0, s1, t0, t1⟩ := blk2 ks
  go_wp2
  have hb' := below_store2 (u := .int .u64 11) (v := .int .u64 0) hb (Nat.le_succ _)
  have kr' := store2_far (u := .int .u64 11) (v := .int .u64 0) kr (Nat.ne_of_lt (Nat.lt_succ_self _))
  have kl' := store2_far (u := .int .u64 11) (v := .int .u64 0) kl (Nat.ne_of_lt (Nat.lt_succ_of_lt hll))
  have ks' := store2 (u := .int .u64 11) (v := .int .u64 0) ks
  clear hb kr ks kl s0 s1 t0 t1
  generalize (wc.setCell ⟨w.heap.size + 1, 0, none⟩ (.int .u64 11)).setCell ⟨w.heap.size + 1, 1, none⟩ (.int .u64 0) = wf at *
  have hb := hb'
  have kr := kr'
  have ks := ks'
  have kl := kl'
  clear hb' kr' ks' kl'
  rw [rounds_succ]
  obtain ⟨r0, r1, u0, u1⟩ := blk2 kr
  obtain ⟨s0, s1, t0, t1⟩ := blk2 ks
  go_wp2
  obtain ⟨p2, q2, _, _⟩ := blk2 (store2 (u := .int .u64 11) (v := .int .u64 0) kr)
  exact bodyPost_ret (v := .agg #[.int .u64 11, .int .u64 0]) (by simp [results, Tryd.results63, go_sem, p2, q2]) rfl ⟨rfl, below_store2 hb (Nat.le_refl _)⟩
theorem dot_two (w : World) (p q : Nat)
    (hp : w.heap[p]? = some (.cells #[.int .u64 1, .int .u64 0, .int .u64 2, .int .u64 0] 65 (0, 0)))
    (hq : w.heap[q]? = some (.cells #[.int .u64 3, .int .u64 0, .int .u64 4, .int .u64 0] 65 (0, 0))) :
    Calls Tryd.prog 97 #[.int .u8 1, .slice (some ⟨p, 0, none⟩) 2 2, .slice (some ⟨q, 0, none⟩) 2 2] w fun e w' => e = .returned (.tuple #[.agg #[.int .u64 11, .int .u64 0], .int .i64 0]) ∧ Below w.heap.size w w' := by
  go_enter Tryd.func97, Tryd.ntmps97
  go_wp2_with fail
  refine name_calls (fun w1 => Below w.heap.size w w1 ∧ w1.heap[w.heap.size]? = some (.cells #[.int .u64 0, .int .u64 0] 65 (0, 0)) ∧ w1.heap[p]? = some (.cells #[.int .u64 1, .int .u64 0, .int .u64 2, .int .u64 0] 65 (0, 0)) ∧ w1.heap[q]? = some (.cells #[.int .u64 3, .int .u64 0, .int .u64 4, .int .u64 0] 65 (0, 0)))
    ⟨(Below.refl _ _).alloc (Nat.le_refl _) _, alloc_at rfl, alloc_keeps hp, alloc_keeps hq⟩ ?_
  rintro w1 ⟨hb, kr, kp, kq⟩
  refine (each_two _ p q kp kq).mono ?_
  rintro e w2 ⟨l, rfl, hw2, kl⟩
  replace hb := below_next hb hb.size hw2
  replace kr := keeps hw2 kr
  clear hw2 kp kq hp hq
  go_wp2_with fail
  refine call_then (sum_two _ l kl) ?_
  intro w3 hw3
  replace hb := below_next hb hb.size hw3
  replace kr := keeps hw3 kr
  clear hw3 kl
  obtain ⟨r0, r1, u0, u1⟩ := blk2 kr
  go_wp2
  obtain ⟨p2, q2, _, _⟩ := blk2 (store2 (u := .int .u64 11) (v := .int .u64 0) kr)
  exact bodyPost_ret (v := .tuple #[.agg #[.int .u64 11, .int .u64 0], .int .i64 0]) (by simp [results, Tryd.results97, go_sem, p2, q2]) rfl ⟨rfl, below_store2 hb (Nat.le_refl _)⟩
end Go.Proofs.YtpojhomccmfffaaDoor

/-
  Rows of bytes that a call made: kept by what makes new memory alone; read as a string.
-/
namespace Go.Proofs.YtpojhomccmfffaaDoor
open Go.RowKit Flow

theorem ownsRow_cell {w : World} {base g n cap : Nat} {e : TypeId} {xs : List Int} (h : w.ownsRow base e 1 (.slice (some ⟨g, 0, none⟩) n cap) n (xs.map (.int .u8))) :
    ∀ i, i < n → w.cell? ⟨g, 0 + i, none⟩ = some (.int .u8 (xs.getD i 0)) := by
  intro i hi
  have hx : xs.length = n := by simpa using h.1
  have := h.cells (g := g) rfl i (.int .u8 (xs.getD i 0)) (by simp [hx, hi])
  rw [Nat.zero_add]
  rw [show (Addr.add ⟨g, 0, none⟩ i) = ⟨g, i, none⟩ by unfold Addr.add; split <;> simp_all] at this
  exact this
/-- A row of bytes that a call made reads as a string. -/
theorem ownsRow_string {P : Program} {w : World} {base n : Nat} {e : TypeId} {v : Value} {xs : List Int} (h : w.ownsRow base e 1 v n (xs.map (.int .u8)))
    (src e' dst : TypeId) (hs : P.underlying src = some (.slice e')) (he : P.underlying e' = some (.int .u8)) (hd : P.underlying dst = some .string) :
    (convert src dst v).run P w = .ok (.string (strOfNums xs)) w := by
  have hx : xs.length = n := by simpa using h.1
  rcases h.2 with ⟨rfl, hn⟩ | ⟨g, cap, cur, rfl, _⟩
  · have : xs = [] := by apply List.eq_nil_of_length_eq_zero; omega
    subst this
    exact run_convert_bytes_nil w src e' hs he 0 0 dst hd
  · exact run_convert_bytes_arg w src e' hs he g 0 n cap xs hx (ownsRow_cell h) dst hd
/-- What lies as a string still does where there is new memory beside it. -/
def StrAt (w : World) (v : Value) (s : ByteArray) : Prop :=
  ∃ p n c xs, v = .slice p n c ∧ s = strOfNums xs ∧ xs.length = n ∧ (n = 0 ∧ p = none ∨ ∃ b o, p = some ⟨b, o, none⟩ ∧ ∀ i, i < n → w.cell? ⟨b, o + i, none⟩ = some (.int .u8 (xs.getD i 0)))
theorem StrAt.up {w w' : World} {v : Value} {s : ByteArray} (h : StrAt w v s) (hb : Below w.heap.size w w') : StrAt w' v s := by
  obtain ⟨p, n, c, xs, h1, h2, h3, h4⟩ := h
  refine ⟨p, n, c, xs, h1, h2, h3, h4.imp id ?_⟩
  rintro ⟨b, o, h5, h6⟩
  exact ⟨b, o, h5, fun i hi => (hb.cell (World.block_lt_of_cell? _ _ (h6 i hi))).trans (h6 i hi)⟩
theorem StrAt.conv {P : Program} {w : World} {v : Value} {s : ByteArray} (h : StrAt w v s) {src e dst : TypeId} (hs : P.underlying src = some (.slice e)) (he : P.underlying e = some (.int .u8)) (hd : P.underlying dst = some .string) :
    (convert src dst v).run P w = .ok (.string s) w := by
  obtain ⟨p, n, c, xs, rfl, rfl, h3, ⟨h4, rfl⟩ | ⟨b, o, rfl, h6⟩⟩ := h
  · obtain rfl : xs = [] := List.eq_nil_of_length_eq_zero (by omega)
    exact run_convert_bytes_nil w src e hs he n c dst hd
  · exact run_convert_bytes_arg w src e hs he b o n c xs h3 h6 dst hd
theorem ownsRow_strAt {w : World} {base n : Nat} {e : TypeId} {v : Value} {xs : List Int} (h : w.ownsRow base e 1 v n (xs.map (.int .u8))) : StrAt w v (strOfNums xs) := by
  have hx : xs.length = n := by simpa using h.1
  rcases h.2 with ⟨rfl, hn⟩ | ⟨g, cap, cur, rfl, _⟩
  · subst hn; exact ⟨none, 0, 0, xs, rfl, rfl, hx, .inl ⟨rfl, rfl⟩⟩
  · exact ⟨_, n, cap, xs, rfl, rfl, hx, .inr ⟨g, 0, rfl, ownsRow_cell h⟩⟩
theorem strOfNums_congr {a b : List Int} (h : a = b) : strOfNums a = strOfNums b := by rw [h]
end Go.Proofs.YtpojhomccmfffaaDoor
