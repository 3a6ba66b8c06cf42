/-
  Contracts of package field: inverses of a list, by one inverse for all.
-/
import Derived.Test.YtokdbedineoklaaFieldPow
namespace Go.Proofs.Ytokdbedineoklaa
open Go.RowKit F Flow
set_option linter.unusedVariables false
attribute [local go_sem] eql_elem

theorem mul_comm' (f a b : Int) : mul f a b = mul f b a := by unfold mul; rw [Int.mul_comm]
theorem redu_mul (f a b : Int) : redu f (mul f a b) = mul f a b := redu_of_lt (mul_bound f a b).1 (mul_bound f a b).2
theorem mul_assoc' (f a b c : Int) : mul f (mul f a b) c = mul f a (mul f b c) := by
  show redu f (mul f a b) * redu f c % M f = redu f a * redu f (mul f b c) % M f
  rw [redu_mul, redu_mul]
  unfold mul
  rw [Int.mul_emod, Int.emod_emod, ← Int.mul_emod, Int.mul_assoc]
  conv => rhs; rw [Int.mul_emod, Int.emod_emod, ← Int.mul_emod]
theorem mul_one' (f a : Int) : mul f a 1 = redu f a := by
  have h1 : redu f 1 = 1 := redu_of_lt (by omega) (by have := M_pos f; unfold M; split <;> omega)
  unfold mul
  rw [h1, Int.mul_one]
  exact Int.emod_eq_of_lt (redu_nonneg f a) (redu_lt f a)
theorem mul_redu_r (f a b : Int) : mul f a (redu f b) = mul f a b := by unfold mul; rw [redu_redu]
theorem mul_zero_of {f a b : Int} (h : redu f a = 0) : mul f a b = 0 := by unfold mul; rw [h, Int.zero_mul, Int.zero_emod]
theorem redu_of_unit {f a b : Int} (h : mul f a b = 1) : redu f a ≠ 0 := fun e => by rw [mul_zero_of e] at h; cases h
/-- The product of the first elements. -/
def prods (f : Int) (xs : List Int) (k : Nat) : Int := (xs.take k).foldl (mul f) 1
theorem prods_zero (f : Int) (xs : List Int) : prods f xs 0 = 1 := rfl
theorem prods_succ {f : Int} {xs : List Int} {k : Nat} (hk : k < xs.length) : prods f xs (k + 1) = mul f (prods f xs k) (xs.getD k 0) := by
  unfold prods
  rw [List.take_succ_eq_append_getElem hk, List.foldl_append]
  simp [hk]
theorem prods_ok (f : Int) (xs : List Int) (k : Nat) : 0 ≤ prods f xs k ∧ prods f xs k < 340282366920938463463374607431768211456 := by
  unfold prods
  have key : ∀ (l : List Int) (s : Int), 0 ≤ s ∧ s < 340282366920938463463374607431768211456 → 0 ≤ l.foldl (mul f) s ∧ l.foldl (mul f) s < 340282366920938463463374607431768211456 := by
    intro l
    induction l with
    | nil => exact fun s h => h
    | cons x l ih => exact fun s _ => ih _ (by have h := mul_bound f s x; have := M_lt f; omega)
  exact key _ _ (by omega)
/-- Every element has one by which it is 1. -/
def Units (f : Int) (xs : List Int) (k : Nat) : Prop := ∀ i, i < k → i < xs.length → ∃ y, mul f (xs.getD i 0) y = 1
theorem prods_unit {f : Int} {xs : List Int} : ∀ {k : Nat}, k ≤ xs.length → Units f xs k → ∃ y, mul f (prods f xs k) y = 1
  | 0, _, _ => ⟨1, by rw [prods_zero, mul_one']; exact redu_of_lt (by omega) (by unfold M; split <;> omega)⟩
  | k + 1, hk, hu => by
    obtain ⟨y, hy⟩ := prods_unit (k := k) (by omega) (fun i hi => hu i (by omega))
    obtain ⟨z, hz⟩ := hu k (by omega) (by omega)
    refine ⟨mul f z y, ?_⟩
    rw [prods_succ (by omega), mul_assoc', ← mul_assoc' f _ z y, hz, mul_comm' f 1 y, mul_one', mul_redu_r]
    exact hy
/-- What one division says of each element. -/
def InvBy (f : Int) : Prop := ∀ a, 0 ≤ a → a < 340282366920938463463374607431768211456 →
  (redu f a = 0 → ∀ w, Calls Try.prog 12 #[.int .u8 f, .agg #[.int .u64 (lo a), .int .u64 (hi a)]] w fun e w' => e = .returned (.tuple #[.agg #[.int .u64 0, .int .u64 0], .int .i64 8]) ∧ Below w.heap.size w w') ∧
  (redu f a ≠ 0 → ∃ v, (0 ≤ v ∧ v < M f) ∧ mul f a v = 1 ∧ ∀ w, Calls Try.prog 12 #[.int .u8 f, .agg #[.int .u64 (lo a), .int .u64 (hi a)]] w fun e w' => e = .returned (.tuple #[.agg #[.int .u64 (lo v), .int .u64 (hi v)], .int .i64 0]) ∧ Below w.heap.size w w')
theorem invBy1 : InvBy 1 := fun a a0 a1 => by
  have hl : redu 1 (lo a) = redu 1 a := redu_lo1 a
  refine ⟨fun hz w => ?_, fun hz => ?_⟩
  · exact finv_one a 0 8 (ginv_zero (lo a) (lo_nonneg a) (lo_lt a) (by rw [hl]; exact hz)) w
  · have hp := pow_bound 1 (lo a) 18446744069414584319
    have h1 := inv_one (lo_nonneg a) (lo_lt a) (by rw [hl]; exact hz)
    have hp2 := hp
    rw [M1] at hp2
    have key := ginv_other (lo a) (lo_nonneg a) (lo_lt a) (by rw [hl]; exact hz)
    generalize pow 1 (lo a) 18446744069414584319 = v at *
    refine ⟨v, hp, ?_, fun w => ?_⟩
    · have e : mul 1 (lo a) v = mul 1 a v := by unfold mul; rw [hl]
      rwa [e] at h1
    · rw [lo_of_lt hp2.1 (by omega), hi_of_lt hp2.1 (by omega)]
      exact finv_one a v 0 key w
theorem invBy2 : InvBy 2 := fun a a0 a1 => by
  refine ⟨fun hz w => finv_two a _ _ 8 (winv_zero a a0 a1 hz) w, fun hz => ?_⟩
  have key := winv_other a a0 a1 hz
  have h1 := winv_one a0 hz
  have hp := pow_bound 2 a 340282366920938462946865773367900766207
  generalize pow 2 a 340282366920938462946865773367900766207 = v at *
  exact ⟨v, hp, h1, fun w => finv_two a _ _ 0 key w⟩
theorem finvvec_none (n : Int) (l : Value) (h : NoField n) (w : World) : Calls Try.prog 46 #[.int .u8 n, l] w fun e w' => e = .returned (.tuple #[.slice none 0 0, .int .i64 10]) ∧ Below w.heap.size w w' := by
  have hv := Lib.hid (fvalid_none n h)
  go_enter Try.func46, Try.ntmps46
  go_wp2_with fail
  refine call_then (hv.out _) ?_
  intro w1 hb
  go_wp2
  go_ret2
  exact ⟨rfl, hb⟩
theorem finvvec_long (n : Int) (A : Option Addr) (p c : Nat) (hp : 4096 < p) (hm : p ≤ maxLen)
    (hval : ∀ w, Calls Try.prog 29 #[.int .u8 n] w fun e w' => e = .returned (.bool true) ∧ Below w.heap.size w w') (w : World) :
    Calls Try.prog 46 #[.int .u8 n, .slice A p c] w fun e w' => e = .returned (.tuple #[.slice none 0 0, .int .i64 6]) ∧ Below w.heap.size w w' := by
  unfold maxLen at hm
  replace hval := Lib.hid hval
  go_enter Try.func46, Try.ntmps46
  go_wp2_with fail
  refine call_then (hval.out _) ?_
  intro w1 hb
  go_wp2
  go_ret2
  exact ⟨rfl, hb⟩
/-- The products ahead of each place. -/
def aheads (f : Int) (xs : List Int) (k : Nat) : List Int := (List.range k).map (prods f xs)
theorem aheads_length (f : Int) (xs : List Int) (k : Nat) : (aheads f xs k).length = k := by simp [aheads]
theorem aheads_at (f : Int) (xs : List Int) {n k : Nat} (h : k < n) : (aheads f xs n).getD k 0 = prods f xs k := by simp [aheads, h]
theorem aheads_set {f : Int} {xs : List Int} {n k : Nat} (h : k < n) : (aheads f xs k ++ List.replicate (n - k) 0).set k (prods f xs k) = aheads f xs (k + 1) ++ List.replicate (n - (k + 1)) 0 := by
  rw [List.set_append_right _ _ (by simp [aheads])]
  rw [aheads_length, Nat.sub_self, show n - k = (n - (k + 1)) + 1 by omega, List.replicate_succ, List.set_cons_zero]
  simp [aheads, List.range_succ]
set_option maxHeartbeats 4000000 in
theorem finvvec_zero (f : Int) (xs : List Int) (A : Option Addr) (N c : Nat) (hxs : ElemsOK xs) (hN : xs.length = N) (hm : N ≤ 4096) (hz : redu f (prods f xs N) = 0)
    (hval : ∀ w, Calls Try.prog 29 #[.int .u8 f] w fun e w' => e = .returned (.bool true) ∧ Below w.heap.size w w')
    (hone : ∀ w, Calls Try.prog 24 #[.int .u8 f] w fun e w' => e = .returned (.agg #[.int .u64 1, .int .u64 0]) ∧ Below w.heap.size w w')
    (hmul : OpBy 20 f (mul f)) (hinv : InvBy f) (w : World) (hA : ElemsAt w A xs) :
    Calls Try.prog 46 #[.int .u8 f, .slice A N c] w fun e w' => e = .returned (.tuple #[.slice none 0 0, .int .i64 8]) ∧ Below w.heap.size w w' := by
  have hmk := make_elems N (by omega)
  have hstep : ∀ k, k < N → ∀ w, Calls Try.prog 20 #[.int .u8 f, .agg #[.int .u64 (lo (prods f xs k)), .int .u64 (hi (prods f xs k))], .agg #[.int .u64 (lo (xs.getD k 0)), .int .u64 (hi (xs.getD k 0))]] w fun e w' => e = .returned (.agg #[.int .u64 (lo (prods f xs (k + 1))), .int .u64 (hi (prods f xs (k + 1)))]) ∧ Below w.heap.size w w' := fun k hk w => by
    rw [← hN] at hk
    have hx := hxs.at_ hk
    have hp := prods_ok f xs k
    rw [prods_succ hk]
    exact (hmul _ _ hp.1 hp.2 hx.1 hx.2).2 w
  replace hval := Lib.hid hval
  replace hone := Lib.hid hone
  replace hstep := Lib.hid hstep
  replace hN := Lib.hid hN
  replace hmul := Lib.hid hmul
  replace hinv := Lib.hid hinv
  go_enter Try.func46, Try.ntmps46
  go_wp2_with fail
  refine call_then (hval.out _) ?_
  intro w1 hb
  clear hval
  go_wp2_with fail
  refine name_calls (fun w2 => Below w.heap.size w w2 ∧ Row w2 w1.heap.size (aheads f xs 0 ++ List.replicate (N - 0) 0)) ⟨hb.alloc hb.size _, (show Row _ _ (List.replicate N 0) from alloc_at rfl)⟩ ?_
  have hl := hb.size
  clear hb hmk
  generalize w1.heap.size = l at *
  rintro w2 ⟨hb, hr⟩
  refine call_then (hone.out _) ?_
  intro w3 hw
  replace hb := below_next hb hb.size hw
  replace hr := hr.up hw
  clear hw hone
  go_wp2
  refine name_wp (fun w4 => Below w.heap.size w w4 ∧ Row w4 l (aheads f xs 0 ++ List.replicate (N - 0) 0) ∧ Holds w4 w3.heap.size (prods f xs 0)) ⟨hb.alloc hb.size _, hr.alloc _, alloc_at rfl⟩ ?_
  have hlp := lt_of_get hr
  have hwp := hb.size
  clear hb hr
  generalize w3.heap.size = p at *
  rintro w4 ⟨hb, hr, hp⟩
  go_loopw [26] (fun i wr => ∃ k : Nat, k ≤ N ∧ i = .int .i64 k ∧ Below w.heap.size w wr ∧ Row wr l (aheads f xs k ++ List.replicate (N - k) 0) ∧ Holds wr p (prods f xs k)) (fun i _ => N - (intOf i).toNat)
  case atStart => exact ⟨0, Nat.zero_le _, rfl, hb, hr, hp⟩
  case round =>
    obtain ⟨k, hk, rfl, hb, hr, hp⟩ := hrel
    by_cases hlt : k < N
    · obtain ⟨b1, o1, rfl, ha⟩ := hA.came (k := k) (by rw [hN.out]; exact hlt)
      have c0 := (ha wr hb).1
      have c1 := (ha wr hb).2
      have hc := Lib.hid (hstep.out k hlt)
      have hset := Lib.hid (aheads_set (f := f) (xs := xs) hlt)
      have hlen : k < (aheads f xs k ++ List.replicate (N - k) 0).length := by simp [aheads]; omega
      generalize hSS : prods f xs k = S at *
      generalize hTT : prods f xs (k + 1) = T at *
      replace hSS := Lib.hid hSS
      replace hTT := Lib.hid hTT
      generalize xs.getD k 0 = t at *
      replace ha := Lib.hid ha
      have s0 := hr.lo hlen
      have s1 := hr.hi hlen
      have f0' := hr.free (k * 2)
      have f1' := hr.free (k * 2 + 1)
      obtain ⟨r0, r1, u0, u1⟩ := blk2 hp
      have i0 : (0 : Int) ≤ (k : Int) := by omega
      have i1 : (k : Int) < (N : Int) := by omega
      have n1 : p ≠ l := by omega
      have l1 := lt_of_get hp
      have l2 : p ≠ wr.heap.size := Nat.ne_of_lt l1
      have l3 := lt_of_get hr
      have l4 : l ≠ wr.heap.size := Nat.ne_of_lt l3
      replace hlen := Lib.hid hlen
      go_wp2_with fail
      refine name_calls (fun w6 => Below w.heap.size w w6 ∧ Row w6 l (aheads f xs (k + 1) ++ List.replicate (N - (k + 1)) 0) ∧ Holds w6 p S) ⟨((hb.setCell (p := ⟨l, k * 2, none⟩) hl _).setCell (p := ⟨l, k * 2 + 1, none⟩) hl _).alloc ((hb.setCell (p := ⟨l, k * 2, none⟩) hl _).setCell (p := ⟨l, k * 2 + 1, none⟩) hl _).size _, by rw [← hset.out]; exact (hr.set hlen.out _).alloc _, (hp.far' n1).alloc _⟩ ?_
      clear s0 s1 f0' f1' r0 r1 u0 u1 l1 l2 l3 l4 c0 c1 hb hr hp hset hlen
      rintro w6 ⟨hb, hr, hp⟩
      refine call_then (hc.out _) ?_
      intro w7 hw
      replace hb := below_next hb hb.size hw
      replace hr := hr.up hw
      replace hp := hp.up hw
      clear hw
      obtain ⟨r0, r1, u0, u1⟩ := blk2 hp
      go_wp2
      clear r0 r1 u0 u1
      go_roundw
      case rel => exact ⟨k + 1, hlt, by go_num, below_store2 hb hwp, hr.far (Ne.symm n1), by rw [hTT.out]; exact hp.set _⟩
      case measure => simp [intOf]; omega
    · have hkN : N = k := by omega
      subst hkN
      clear hA hxs hstep
      have hi0 := Lib.hid ((hinv.out _ (prods_ok f xs N).1 (prods_ok f xs N).2).1 hz)
      clear hinv hz
      generalize prods f xs N = S at *
      obtain ⟨r0, r1, u0, u1⟩ := blk2 hp
      go_wp2_with fail
      refine call_then (hi0.out _) ?_
      intro w6 hw
      replace hb := below_next hb hb.size hw
      clear hw r0 r1 u0 u1 hi0 hr hp
      go_wp2
      go_ret2
      exact ⟨rfl, hb.alloc hb.size _⟩

/-- What the inverses of a list are. -/
def Inverses (f : Int) (xs rs : List Int) : Prop := rs.length = xs.length ∧ ∀ i, i < xs.length → (0 ≤ rs.getD i 0 ∧ rs.getD i 0 < M f) ∧ mul f (xs.getD i 0) (rs.getD i 0) = 1
/-- From place k on all is done. -/
def Back (f : Int) (xs rs : List Int) (k : Nat) : Prop := rs.length = xs.length - k ∧ ∀ j, j < xs.length - k → (0 ≤ rs.getD j 0 ∧ rs.getD j 0 < M f) ∧ mul f (xs.getD (k + j) 0) (rs.getD j 0) = 1
theorem Back.step {f : Int} {xs rs : List Int} {k : Nat} {q : Int} (h : Back f xs rs (k + 1)) (hk : k < xs.length) (hq : mul f (prods f xs (k + 1)) q = 1) :
    Back f xs (mul f (prods f xs k) q :: rs) k ∧ mul f (prods f xs k) (mul f q (xs.getD k 0)) = 1 := by
  have e : mul f (xs.getD k 0) (mul f (prods f xs k) q) = 1 := by
    rw [← mul_assoc', mul_comm' f (xs.getD k 0), ← prods_succ hk]; exact hq
  refine ⟨⟨by simp [h.1]; omega, fun j hj => ?_⟩, ?_⟩
  · cases j with
    | zero => exact ⟨mul_bound f _ _, by simpa using e⟩
    | succ j =>
      have := h.2 j (by omega)
      rw [show k + (j + 1) = k + 1 + j by omega]
      simpa using this
  · rw [mul_comm' f q, ← mul_assoc', ← prods_succ hk]; exact hq
theorem Back.whole {f : Int} {xs rs : List Int} (h : Back f xs rs 0) : Inverses f xs rs := ⟨by simpa using h.1, fun i hi => by have := h.2 i (by omega); simpa using this⟩
theorem back_set {f : Int} {xs rs : List Int} {k : Nat} {z : Int} : (aheads f xs (k + 1) ++ rs).set k z = aheads f xs k ++ (z :: rs) := by
  have e : aheads f xs (k + 1) = aheads f xs k ++ [prods f xs k] := by simp [aheads, List.range_succ]
  rw [e, List.append_assoc, List.set_append_right _ _ (by simp [aheads])]
  rw [aheads_length, Nat.sub_self]
  rfl
set_option maxHeartbeats 4000000 in
theorem finvvec_units (f : Int) (xs : List Int) (A : Option Addr) (N c : Nat) (hxs : ElemsOK xs) (hN : xs.length = N) (hm : N ≤ 4096) (hz : redu f (prods f xs N) ≠ 0)
    (hval : ∀ w, Calls Try.prog 29 #[.int .u8 f] w fun e w' => e = .returned (.bool true) ∧ Below w.heap.size w w')
    (hone : ∀ w, Calls Try.prog 24 #[.int .u8 f] w fun e w' => e = .returned (.agg #[.int .u64 1, .int .u64 0]) ∧ Below w.heap.size w w')
    (hmul : OpBy 20 f (mul f)) (hinv : InvBy f) (w : World) (hA : ElemsAt w A xs) :
    Calls Try.prog 46 #[.int .u8 f, .slice A N c] w fun e w' => ∃ g rs, e = .returned (.tuple #[.slice (some ⟨g, 0, none⟩) N N, .int .i64 0]) ∧ Below w.heap.size w w' ∧ Row w' g rs ∧ Inverses f xs rs := by
  have hmk := make_elems N (by omega)
  have hstep : ∀ k, k < N → ∀ w, Calls Try.prog 20 #[.int .u8 f, .agg #[.int .u64 (lo (prods f xs k)), .int .u64 (hi (prods f xs k))], .agg #[.int .u64 (lo (xs.getD k 0)), .int .u64 (hi (xs.getD k 0))]] w fun e w' => e = .returned (.agg #[.int .u64 (lo (prods f xs (k + 1))), .int .u64 (hi (prods f xs (k + 1)))]) ∧ Below w.heap.size w w' := fun k hk w => by
    rw [← hN] at hk
    have hx := hxs.at_ hk
    have hp := prods_ok f xs k
    rw [prods_succ hk]
    exact (hmul _ _ hp.1 hp.2 hx.1 hx.2).2 w
  replace hval := Lib.hid hval
  replace hone := Lib.hid hone
  replace hstep := Lib.hid hstep
  replace hN := Lib.hid hN
  replace hmul := Lib.hid hmul
  replace hinv := Lib.hid hinv
  go_enter Try.func46, Try.ntmps46
  go_wp2_with fail
  refine call_then (hval.out _) ?_
  intro w1 hb
  clear hval
  go_wp2_with fail
  refine name_calls (fun w2 => Below w.heap.size w w2 ∧ Row w2 w1.heap.size (aheads f xs 0 ++ List.replicate (N - 0) 0)) ⟨hb.alloc hb.size _, (show Row _ _ (List.replicate N 0) from alloc_at rfl)⟩ ?_
  have hl := hb.size
  clear hb hmk
  generalize w1.heap.size = l at *
  rintro w2 ⟨hb, hr⟩
  refine call_then (hone.out _) ?_
  intro w3 hw
  replace hb := below_next hb hb.size hw
  replace hr := hr.up hw
  clear hw hone
  go_wp2
  refine name_wp (fun w4 => Below w.heap.size w w4 ∧ Row w4 l (aheads f xs 0 ++ List.replicate (N - 0) 0) ∧ Holds w4 w3.heap.size (prods f xs 0)) ⟨hb.alloc hb.size _, hr.alloc _, alloc_at rfl⟩ ?_
  have hlp := lt_of_get hr
  have hwp := hb.size
  clear hb hr
  generalize w3.heap.size = p at *
  rintro w4 ⟨hb, hr, hp⟩
  go_loopw [26] (fun i wr => ∃ k : Nat, k ≤ N ∧ i = .int .i64 k ∧ Below w.heap.size w wr ∧ Row wr l (aheads f xs k ++ List.replicate (N - k) 0) ∧ Holds wr p (prods f xs k)) (fun i _ => N - (intOf i).toNat)
  case atStart => exact ⟨0, Nat.zero_le _, rfl, hb, hr, hp⟩
  case round =>
    obtain ⟨k, hk, rfl, hb, hr, hp⟩ := hrel
    by_cases hlt : k < N
    · obtain ⟨b1, o1, rfl, ha⟩ := hA.came (k := k) (by rw [hN.out]; exact hlt)
      have c0 := (ha wr hb).1
      have c1 := (ha wr hb).2
      have hc := Lib.hid (hstep.out k hlt)
      have hset := Lib.hid (aheads_set (f := f) (xs := xs) hlt)
      have hlen : k < (aheads f xs k ++ List.replicate (N - k) 0).length := by simp [aheads]; omega
      generalize hSS : prods f xs k = S at *
      generalize hTT : prods f xs (k + 1) = T at *
      replace hSS := Lib.hid hSS
      replace hTT := Lib.hid hTT
      generalize xs.getD k 0 = t at *
      replace ha := Lib.hid ha
      have s0 := hr.lo hlen
      have s1 := hr.hi hlen
      have f0' := hr.free (k * 2)
      have f1' := hr.free (k * 2 + 1)
      obtain ⟨r0, r1, u0, u1⟩ := blk2 hp
      have i0 : (0 : Int) ≤ (k : Int) := by omega
      have i1 : (k : Int) < (N : Int) := by omega
      have n1 : p ≠ l := by omega
      have l1 := lt_of_get hp
      have l2 : p ≠ wr.heap.size := Nat.ne_of_lt l1
      have l3 := lt_of_get hr
      have l4 : l ≠ wr.heap.size := Nat.ne_of_lt l3
      replace hlen := Lib.hid hlen
      go_wp2_with fail
      refine name_calls (fun w6 => Below w.heap.size w w6 ∧ Row w6 l (aheads f xs (k + 1) ++ List.replicate (N - (k + 1)) 0) ∧ Holds w6 p S) ⟨((hb.setCell (p := ⟨l, k * 2, none⟩) hl _).setCell (p := ⟨l, k * 2 + 1, none⟩) hl _).alloc ((hb.setCell (p := ⟨l, k * 2, none⟩) hl _).setCell (p := ⟨l, k * 2 + 1, none⟩) hl _).size _, by rw [← hset.out]; exact (hr.set hlen.out _).alloc _, (hp.far' n1).alloc _⟩ ?_
      clear s0 s1 f0' f1' r0 r1 u0 u1 l1 l2 l3 l4 c0 c1 hb hr hp hset hlen
      rintro w6 ⟨hb, hr, hp⟩
      refine call_then (hc.out _) ?_
      intro w7 hw
      replace hb := below_next hb hb.size hw
      replace hr := hr.up hw
      replace hp := hp.up hw
      clear hw
      obtain ⟨r0, r1, u0, u1⟩ := blk2 hp
      go_wp2
      clear r0 r1 u0 u1
      go_roundw
      case rel => exact ⟨k + 1, hlt, by go_num, below_store2 hb hwp, hr.far (Ne.symm n1), by rw [hTT.out]; exact hp.set _⟩
      case measure => simp [intOf]; omega
    · have hkN : N = k := by omega
      subst hkN
      clear hstep
      obtain ⟨v, hv, hmv, hcv⟩ := (hinv.out _ (prods_ok f xs N).1 (prods_ok f xs N).2).2 hz
      replace hcv := Lib.hid hcv
      clear hinv hz
      have hM := M_lt f
      have hv2 : 0 ≤ v ∧ v < 340282366920938463463374607431768211456 := by omega
      clear hv
      rw [Nat.sub_self, List.replicate_zero] at hr
      replace hmv := Lib.hid hmv
      obtain ⟨r0, r1, u0, u1⟩ := blk2 hp
      go_wp2_with fail
      refine call_then (hcv.out _) ?_
      intro w6 hw
      replace hb := below_next hb hb.size hw
      replace hr := hr.up hw
      clear hw r0 r1 u0 u1 hcv hp
      go_wp2
      refine name_wp (fun w7 => Below w.heap.size w w7 ∧ Row w7 l (aheads f xs N ++ []) ∧ Holds w7 w6.heap.size v) ⟨hb.alloc hb.size _, hr.alloc _, alloc_at rfl⟩ ?_
      have hlq := lt_of_get hr
      have hwq := hb.size
      clear hb hr hlp hwp
      generalize w6.heap.size = q at *
      rintro w7 ⟨hb, hr, hq⟩
      have hBk : Back f xs [] N := ⟨by rw [hN.out]; simp, fun j hj => by rw [hN.out] at hj; omega⟩
      go_loopw [12] (fun i wr => ∃ (k : Nat) (rs : List Int) (y : Int), k ≤ N ∧ i = .int .i64 ((k : Int) - 1) ∧ Below w.heap.size w wr ∧ Row wr l (aheads f xs k ++ rs) ∧ Holds wr q y ∧ (0 ≤ y ∧ y < 340282366920938463463374607431768211456) ∧ Hid (mul f (prods f xs k) y = 1) ∧ Back f xs rs k) (fun i _ => (intOf i + 1).toNat)
      case atStart => exact ⟨N, [], v, Nat.le_refl _, rfl, hb, hr, hq, hv2, hmv, hBk⟩
      case round =>
        obtain ⟨k, rs, y, hk, rfl, hb, hr, hq, hy, hyk, hBk⟩ := hrel
        clear hv2 hmv
        cases k with
        | zero =>
          rw [show aheads f xs 0 ++ rs = rs from rfl] at hr
          have hW := Lib.hid hBk.whole
          replace hr := Lib.hid hr
          clear hBk hyk hA
          have i0 : ((0 : Nat) : Int) - 1 = -1 := rfl
          rw [i0]
          go_wp2
          go_ret2
          exact ⟨l, rs, rfl, hb, hr.out, hW.out⟩
        | succ k =>
          have i0 : ((k + 1 : Nat) : Int) - 1 = (k : Int) := by omega
          rw [i0]
          clear i0
          have hlt : k < N := by omega
          obtain ⟨b1, o1, rfl, ha⟩ := hA.came (k := k) (by rw [hN.out]; exact hlt)
          have hxk := hxs.at_ (k := k) (by rw [hN.out]; exact hlt)
          have hlen : k < (aheads f xs (k + 1) ++ rs).length := by simp [aheads]; omega
          have hget : (aheads f xs (k + 1) ++ rs).getD k 0 = prods f xs k := by
            rw [List.getD_eq_getElem?_getD, List.getElem?_append_left (by simp [aheads]), ← List.getD_eq_getElem?_getD, aheads_at f xs (Nat.lt_succ_self k)]
          have hset := Lib.hid (back_set (f := f) (xs := xs) (rs := rs) (k := k) (z := mul f (prods f xs k) y))
          have hstp := hBk.step (by rw [hN.out]; exact hlt) hyk.out
          replace hstp := Lib.hid hstp
          have hP := prods_ok f xs k
          have hm1 := Lib.hid ((hmul.out _ _ hP.1 hP.2 hy.1 hy.2).2)
          have hm2 := Lib.hid ((hmul.out _ _ hy.1 hy.2 hxk.1 hxk.2).2)
          have hyx := mul_bound f y (xs.getD k 0)
          have c0 := fun v (hv : Below wr.heap.size wr v) => (hr.up hv).lo hlen
          have c1 := fun v (hv : Below wr.heap.size wr v) => (hr.up hv).hi hlen
          rw [hget] at c0 c1
          clear hyk hBk hget hP
          generalize hPP : prods f xs k = P at *
          replace hPP := Lib.hid hPP
          replace ha := Lib.hid ha
          replace c0 := Lib.hid c0
          replace c1 := Lib.hid c1
          replace hlen := Lib.hid hlen
          have i0 : (0 : Int) ≤ (k : Int) := by omega
          have i1 : (k : Int) < (N : Int) := by omega
          have n1 : q ≠ l := by omega
          go_wp2
          refine wp_region_flow1 10 (by kernel_rfl) (by kernel_rfl) (by kernel_rfl) ?_
          apply Exists.intro
          refine ⟨fun ι _ φ hφ => ?_, fun wt hwt => ?_⟩
          · have d0 := fun i => c0.out _ (hφ.old i)
            have d1 := fun i => c1.out _ (hφ.old i)
            obtain ⟨e0, e1⟩ := Family.two (φ := φ) hφ hq
            simp only [List.take_succ_cons, List.take_zero]
            repeat (go_big_quiet_step ((first | (go_at_call 20; exact flow_call hφ (hm1.out _)))))
            exact wpQuiet_nil rfl
          replace hb := below_next hb hb.size hwt
          replace hr := hr.up hwt
          replace hq := hq.up hwt
          clear hwt c0 c1
          simp only [List.drop_succ_cons, List.drop_zero]
          have s0 := hr.lo hlen.out
          have s1 := hr.hi hlen.out
          have f0' := hr.free (k * 2)
          have f1' := hr.free (k * 2 + 1)
          go_wp2
          clear s0 s1 f0' f1'
          refine name_wp (fun w8 => Below w.heap.size w w8 ∧ Row w8 l (aheads f xs k ++ (mul f P y :: rs)) ∧ Holds w8 q y) ⟨(hb.setCell (p := ⟨l, k * 2, none⟩) hl _).setCell (p := ⟨l, k * 2 + 1, none⟩) hl _, by rw [← hset.out]; exact hr.set hlen.out _, hq.far' n1⟩ ?_
          clear hb hr hq hlen hset
          rintro w8 ⟨hb, hr, hq⟩
          refine wp_region_flow1 7 (by kernel_rfl) (by kernel_rfl) (by kernel_rfl) ?_
          apply Exists.intro
          refine ⟨fun ι _ φ hφ => ?_, fun wt2 hwt => ?_⟩
          · have d5 := fun i => (ha.out _ (below_next hb hb.size (hφ.old i))).1
            have d6 := fun i => (ha.out _ (below_next hb hb.size (hφ.old i))).2
            obtain ⟨e0, e1⟩ := Family.two (φ := φ) hφ hq
            simp only [List.take_succ_cons, List.take_zero]
            repeat (go_big_quiet_step ((first | (go_at_call 20; exact flow_call hφ (hm2.out _)))))
            exact wpQuiet_nil rfl
          replace hb := below_next hb hb.size hwt
          replace hr := hr.up hwt
          replace hq := hq.up hwt
          clear hwt
          simp only [List.drop_succ_cons, List.drop_zero]
          obtain ⟨e0, e1, e2, e3⟩ := blk2 hq
          go_wp2
          clear e0 e1 e2 e3
          go_roundw
          case rel => exact ⟨k, mul f P y :: rs, mul f y (xs.getD k 0), by omega, by go_num, below_store2 hb hwq, hr.far (Ne.symm n1), hq.set _, by omega, by rw [hPP.out]; exact hstp.out.2, hstp.out.1⟩
          case measure => simp [intOf]
end Go.Proofs.Ytokdbedineoklaa
