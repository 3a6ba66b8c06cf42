/-
  Values at roots: a field's own facts; points.
-/
import Derived.Test.YtnlnbikiocdpdaaDoorNtC
import Derived.Test.YtnlnbikiocdpdaaDoorFieldInv
namespace Go.Proofs.YtnlnbikiocdpdaaDoor
open Go.RowKit F Flow
set_option linter.unusedVariables false
set_option linter.unusedSimpArgs false
attribute [local go_sem] eql_elem

/-- The root of order 2^k. -/
def rt (f : Int) (k : Nat) : Int := pow f 7 ((M f - 1) / 2 ^ k).toNat
theorem rt_ok (f : Int) (k : Nat) : 0 ≤ rt f k ∧ rt f k < 340282366920938463463374607431768211456 := by
  have := pow_bound f 7 ((M f - 1) / 2 ^ k).toNat
  have := M_lt f
  unfold rt
  omega
/-- A field, and what its package's functions answer. -/
structure Ft (f : Int) : Prop where
  one2 : f = 1 ∨ f = 2
  hval : ∀ w, Calls Tryd.prog 22 #[.int .u8 f] w fun e w' => e = .returned (.bool true) ∧ Below w.heap.size w w'
  hone : ∀ w, Calls Tryd.prog 40 #[.int .u8 f] w fun e w' => e = .returned (.agg #[.int .u64 1, .int .u64 0]) ∧ Below w.heap.size w w'
  hmul : OpBy 29 f (mul f)
  hadd : OpBy 34 f (add f)
  hsub : OpBy 37 f (sub f)
  hof : ∀ n : Int, 0 ≤ n → n < 18446744069414584321 → ∀ w, Calls Tryd.prog 28 #[.int .u8 f, .int .u64 n] w fun e w' => e = .returned (.agg #[.int .u64 (lo n), .int .u64 (hi n)]) ∧ Below w.heap.size w w'
  hroot : ∀ k : Nat, k ≤ 10 → ∀ w, Calls Tryd.prog 23 #[.int .u8 f, .int .i64 (k : Int)] w fun e w' => e = .returned (.tuple #[.agg #[.int .u64 (lo (rt f k)), .int .u64 (hi (rt f k))], .int .i64 0]) ∧ Below w.heap.size w w'
  hinv : InvBy f
theorem ft_one : Ft 1 := by
  refine ⟨.inl rfl, fvalid_one, fone_any 1 (.inl rfl), opBy_mul1, opBy_add1, opBy_sub1, fun n n0 n1 w => ?_, fun k hk w => ?_, invBy1⟩
  · have h := fof_one n n0 (by omega) w
    rw [redu_of_lt n0 (by rw [M1]; exact n1)] at h
    exact h
  · have h := fun w => groot_some (k : Int) (by omega) (by omega) w
    have e : (18446744069414584320 / 2 ^ (k : Int).toNat : Int) = (M 1 - 1) / 2 ^ k := by rw [M1, Int.toNat_natCast]; rfl
    rw [e] at h
    have hb := rt_ok 1 k
    have hp := pow_bound 1 7 ((M 1 - 1) / 2 ^ k).toNat
    have h2 := froot_one (k : Int) _ 0 h w
    rw [← show rt 1 k = pow 1 7 ((M 1 - 1) / 2 ^ k).toNat from rfl] at h2 hp
    rw [M1] at hp
    rw [lo_of_lt hp.1 (by omega), hi_of_lt hp.1 (by omega)]
    exact h2
theorem ft_two : Ft 2 := by
  refine ⟨.inr rfl, fvalid_two, fone_any 2 (.inr rfl), opBy_mul2, opBy_add2, opBy_sub2, fun n n0 n1 w => ?_, fun k hk w => ?_, invBy2⟩
  · have h := fof_two n n0 (by omega) w
    rw [redu_of_lt n0 (by have : M 2 = 340282366920938462946865773367900766209 := rfl; omega)] at h
    exact h
  · have h := fun w => wroot_some (k : Int) (by omega) (by omega) w
    have e : (340282366920938462946865773367900766208 / 2 ^ (k : Int).toNat : Int) = (M 2 - 1) / 2 ^ k := by rw [Int.toNat_natCast]; rfl
    rw [e] at h
    exact froot_two (k : Int) _ _ 0 h w
/-- What Points answers. -/
def PtsOut (f : Int) (k : Nat) (w : World) (e : Ending) (w' : World) : Prop := ∃ g, e = .returned (.tuple #[.slice (some ⟨g, 0, none⟩) (2 ^ k) (2 ^ k), .int .i64 0]) ∧ Below w.heap.size w w' ∧ w.heap.size ≤ g ∧ Row w' g (powers (mul f) (rt f k) (2 ^ k))
set_option maxHeartbeats 2000000 in
theorem npoints_any {f : Int} (ft : Ft f) (k : Nat) (hk : k ≤ 10) (w : World) : Calls Tryd.prog 10 #[.int .u8 f, .int .i64 (k : Int)] w (PtsOut f k w) := by
  have hval := Lib.hid ft.hval
  have hroot := Lib.hid (ft.hroot k hk)
  have hr := rt_ok f k
  have h2 := two_le hk
  have h1 := two_pos k
  have hpow := Lib.hid (fun w => fpowers_any f (rt f k) (2 ^ k) (mul f) hr.1 hr.2 (by omega) (by omega) ft.hval ft.hone ft.hmul w)
  unfold PtsOut
  generalize rt f k = r at *
  have k0 : (0 : Int) ≤ (k : Int) := by omega
  have k1 : (k : Int) ≤ 10 := by omega
  have hsh : ((1 : Int) * 2 ^ k) = ((2 ^ k : Nat) : Int) := by simp
  obtain ⟨X, hX⟩ : ∃ X, X = 2 ^ k := ⟨_, rfl⟩
  rw [← hX] at hpow hsh h1 h2 ⊢
  have hwr : IntKind.i64.wrap ((1 : Int) * 2 ^ k) = (X : Int) := by rw [hsh]; rw [IntKind.wrap_i64]; omega
  have hwr2 : IntKind.i64.wrap ((2 : Int) ^ k) = (X : Int) := by rw [← hwr]; simp
  have hwr3 : ((2 : Int) ^ k) = (X : Int) := by rw [← hsh]; simp
  replace hX := Lib.hid hX
  clear hsh
  go_enter Tryd.func10, Tryd.ntmps10
  go_wp2_with fail
  refine call_then (hval.out _) ?_
  intro w1 hb
  go_wp2_with fail
  refine call_then (hroot.out _) ?_
  intro w2 hb2
  replace hb := below_next hb hb.size hb2
  clear hb2
  go_wp2_with fail
  have hb2 := hb.alloc hb.size (.cells #[.int .u64 (lo r), .int .u64 (hi r)] 34 (0, 0))
  refine (hpow.out _).mono ?_
  rintro e w3 ⟨g, rfl, hb3, hg, hrow⟩
  have hg2 := Nat.le_trans hb2.size hg
  replace hb := below_next hb2 hb2.size hb3
  clear hb2 hb3
  replace hrow := Lib.hid hrow
  go_wp2
  go_ret2
  exact ⟨g, rfl, hb, hg2, hrow.out⟩
theorem npoints_range {f : Int} (ft : Ft f) (k : Int) (hk : k < 0 ∨ 10 < k) (w : World) : Calls Tryd.prog 10 #[.int .u8 f, .int .i64 k] w fun e w' => e = .returned (.tuple #[.slice none 0 0, .int .i64 6]) ∧ Below w.heap.size w w' := by
  have hval := Lib.hid ft.hval
  rcases hk with h | h
  · go_enter Tryd.func10, Tryd.ntmps10
    go_wp2_with fail
    refine call_then (hval.out _) ?_
    intro w1 hb
    go_wp2
    go_ret2
    exact ⟨rfl, hb⟩
  · go_enter Tryd.func10, Tryd.ntmps10
    go_wp2_with fail
    refine call_then (hval.out _) ?_
    intro w1 hb
    go_wp2
    go_ret2
    exact ⟨rfl, hb⟩
theorem npoints_none (f k : Int) (h : NoField f) (w : World) : Calls Tryd.prog 10 #[.int .u8 f, .int .i64 k] w fun e w' => e = .returned (.tuple #[.slice none 0 0, .int .i64 10]) ∧ Below w.heap.size w w' := by
  have hv := Lib.hid (fvalid_none f h)
  clear h
  go_enter Tryd.func10, Tryd.ntmps10
  go_wp2_with fail
  refine call_then (hv.out _) ?_
  intro w1 hb
  go_wp2
  go_ret2
  exact ⟨rfl, hb⟩
/-- The same as many as a list has elements. -/
theorem npf_any {f : Int} (ft : Ft f) (k : Nat) (hk : k ≤ 10) (N c : Nat) (hN : N = 2 ^ k) (A : Option Addr) (w : World) (hT : Tabs w) : Calls Tryd.prog 19 #[.int .u8 f, .slice A N c] w (PtsOut f k w) := by
  have hval := Lib.hid ft.hval
  have hlog := Lib.hid (fun w h => nlog_pow k hk w h)
  have hpts := Lib.hid (npoints_any ft k hk)
  unfold PtsOut at *
  obtain ⟨X, hX⟩ : ∃ X, X = 2 ^ k := ⟨_, rfl⟩
  rw [← hX] at hN hlog hpts ⊢
  subst hN
  replace hX := Lib.hid hX
  have k0 : (0 : Int) ≤ (k : Int) := by omega
  go_enter Tryd.func19, Tryd.ntmps19
  go_wp2_with fail
  refine call_then (hval.out _) ?_
  intro w1 hb
  go_wp2_with fail
  refine call_then (hlog.out _ (hT.up hb)) ?_
  intro w2 hb2
  replace hb := below_next hb hb.size hb2
  clear hb2
  go_wp2_with fail
  refine (hpts.out _).mono ?_
  rintro e w3 ⟨g, rfl, hb3, hg, hrow⟩
  have hg2 := Nat.le_trans hb.size hg
  replace hb := below_next hb hb.size hb3
  clear hb3
  replace hrow := Lib.hid hrow
  go_wp2
  go_ret2
  exact ⟨g, rfl, hb, hg2, hrow.out⟩
theorem npf_size {f : Int} (ft : Ft f) (N c : Nat) (hN : ∀ k, k ≤ 10 → 2 ^ k ≠ N) (A : Option Addr) (w : World) : Calls Tryd.prog 19 #[.int .u8 f, .slice A N c] w fun e w' => e = .returned (.tuple #[.slice none 0 0, .int .i64 9]) ∧ Below w.heap.size w w' := by
  have hval := Lib.hid ft.hval
  have hlog := Lib.hid (nlog_none (N : Int) (fun k hk h => hN k hk (by omega)))
  clear hN
  go_enter Tryd.func19, Tryd.ntmps19
  go_wp2_with fail
  refine call_then (hval.out _) ?_
  intro w1 hb
  go_wp2_with fail
  refine call_then (hlog.out _) ?_
  intro w2 hb2
  replace hb := below_next hb hb.size hb2
  clear hb2
  go_wp2
  go_ret2
  exact ⟨rfl, hb⟩
theorem npf_none (f : Int) (l : Value) (h : NoField f) (w : World) : Calls Tryd.prog 19 #[.int .u8 f, l] w fun e w' => e = .returned (.tuple #[.slice none 0 0, .int .i64 10]) ∧ Below w.heap.size w w' := by
  have hv := Lib.hid (fvalid_none f h)
  clear h
  go_enter Tryd.func19, Tryd.ntmps19
  go_wp2_with fail
  refine call_then (hv.out _) ?_
  intro w1 hb
  go_wp2
  go_ret2
  exact ⟨rfl, hb⟩
end Go.Proofs.YtnlnbikiocdpdaaDoor
