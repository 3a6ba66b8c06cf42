/-
  Any number to any power is the document's; by what gold's Inv says a number is 1, and of 0 it says that there is none.
-/
import Derived.Test.YtjoghehefefmdaaGoldC
import Derived.Test.YtjoghehefefmdaaPrime
namespace Go.Proofs.Ytjoghehefefmdaa
open Go.ChangeShapes Go.WideShapes Go.ChangeAt Go.RowKit F Flow
set_option linter.unusedVariables false
attribute [local go_sem] eql_elem

theorem powE (a n : Int) (h0 : 0 ≤ a) (h1 : a < 18446744073709551616) (h2 : 0 ≤ n) (h3 : n < 18446744073709551616) (w : World) :
    Calls Try.prog 22 #[.int .i64 1, .agg #[.int .u64 a, .int .u64 0], .agg #[.int .u64 n, .int .u64 0]] w fun e w' => e = .returned (.agg #[.int .u64 (pow 1 a n.toNat), .int .u64 0]) ∧ Below w.heap.size w w' := by
  have h := pow_any 1 a n h0 (by omega) h2 (by omega) w
  have hr := pow_bound 1 a n.toNat
  rw [M1] at hr
  rwa [lo_of_lt h0 h1, hi_of_lt h0 h1, lo_of_lt h2 h3, hi_of_lt h2 h3, lo_of_lt hr.1 (by omega), hi_of_lt hr.1 (by omega)] at h
theorem mulR (a b : Int) (h0 : 0 ≤ a) (h1 : a < 18446744073709551616) (h2 : 0 ≤ b) (h3 : b < 18446744073709551616) (w : World) :
    Calls Try.prog 20 #[.int .i64 1, .agg #[.int .u64 a, .int .u64 0], .agg #[.int .u64 b, .int .u64 0]] w fun e w' => e = .returned (.agg #[.int .u64 (mul 1 a b), .int .u64 0]) ∧ Below w.heap.size w w' := by
  have h := mul_any 1 a b h0 (by omega) h2 (by omega) w
  have hr := mul_bound 1 a b
  rw [M1] at hr
  rwa [lo_of_lt h0 h1, hi_of_lt h0 h1, lo_of_lt h2 h3, hi_of_lt h2 h3, lo_of_lt hr.1 (by omega), hi_of_lt hr.1 (by omega)] at h

/-- Fermat, of the small field. -/
theorem inv_one {a : Int} (h0 : 0 ≤ a) (h1 : a < 18446744073709551616) (hz : redu 1 a ≠ 0) : mul 1 a (pow 1 a 18446744069414584319) = 1 := by
  have hb := redu_nonneg 1 a
  have hl := redu_lt 1 a
  have hp := pow_bound 1 a 18446744069414584319
  have e : mul 1 a (pow 1 a 18446744069414584319) = redu 1 a ^ 18446744069414584320 % M 1 := by
    rw [show mul 1 a (pow 1 a 18446744069414584319) = redu 1 a * redu 1 (pow 1 a 18446744069414584319) % M 1 from rfl, redu_of_lt hp.1 hp.2]
    rw [show pow 1 a 18446744069414584319 = redu 1 a ^ 18446744069414584319 % M 1 from rfl, Int.mul_emod, Int.emod_emod, ← Int.mul_emod, Int.mul_comm, ← Int.pow_succ]
  rw [e]
  rw [M1] at *
  obtain ⟨n, hn⟩ := Int.eq_ofNat_of_zero_le hb
  rw [hn] at hz hl ⊢
  have hnd : ¬ 18446744069414584321 ∣ n := fun h => by
    have := Nat.le_of_dvd (by omega) h
    omega
  have hf := Prime.fermat_one Prime.small_prime hnd
  rw [show (18446744069414584321 : Int) = ((18446744069414584321 : Nat) : Int) from rfl, ← Int.natCast_pow, ← Int.natCast_emod]
  rw [show 18446744069414584321 - 1 = 18446744069414584320 from rfl] at hf
  rw [hf]
  rfl

theorem ginv_zero (a : Int) (h0 : 0 ≤ a) (h1 : a < 18446744073709551616) (hz : redu 1 a = 0) (w : World) :
    Calls Try.prog 23 #[.int .u64 a] w fun e w' => e = .returned (.tuple #[.int .u64 0, .int .i64 8]) ∧ Below w.heap.size w w' := by
  have hd : (redu 1 a == 0) = true := by simpa using hz
  clear hz
  have hb := Below.refl w.heap.size w
  go_enter Try.func23, Try.ntmps23
  go_wp2_with (first
    | (go_at_call 11; refine (gof_any a h0 h1 _).mono ?_; rintro e w' ⟨rfl, rfl⟩)
    )
  go_ret2
  exact ⟨rfl, hb⟩
theorem ginv_other (a : Int) (h0 : 0 ≤ a) (h1 : a < 18446744073709551616) (hz : redu 1 a ≠ 0) (w : World) :
    Calls Try.prog 23 #[.int .u64 a] w fun e w' => e = .returned (.tuple #[.int .u64 (pow 1 a 18446744069414584319), .int .i64 0]) ∧ Below w.heap.size w w' := by
  have hd : (redu 1 a == 0) = false := by simpa using hz
  have hp := gpow_any a 18446744069414584319 h0 h1 (by omega) (by omega)
  rw [show (18446744069414584319 : Int).toNat = 18446744069414584319 from rfl] at hp
  replace hp := Lib.hid hp
  clear hz
  have hb := Below.refl w.heap.size w
  go_enter Try.func23, Try.ntmps23
  go_wp2_with (first
    | (go_at_call 11; refine (gof_any a h0 h1 _).mono ?_; rintro e w' ⟨rfl, rfl⟩)
    | (go_at_call 21; refine call_then (hp.out _) ?_; intro wn hwn; replace hb := below_next hb hb.size hwn; clear hwn)
    )
  go_ret2
  exact ⟨rfl, hb⟩

set_option maxHeartbeats 2000000 in
theorem goldPowers_walk (a n : Int) (wa : (Lit.int .u64 a).wf = true) (wn : (Lit.int .u64 n).wf = true) (w : World) :
    Calls Try.prog 4 #[.int .u64 a, .int .u64 n] w fun e w' => e = .returned (.bool true) ∧ Below w.heap.size w w' := by
  obtain ⟨a0, a1⟩ := wf_u64 wa
  obtain ⟨n0, n1⟩ := wf_u64 wn
  clear wa wn
  have hb := Below.refl w.heap.size w
  by_cases hz : redu 1 a = 0
  · have hi := Lib.hid (ginv_zero a a0 a1 hz)
    have hd : (redu 1 a == 0) = true := by simpa using hz
    clear hz
    go_enter Try.func4, Try.ntmps4
    go_wp2_with (first
      | (go_at_call 8; refine call_then (awake_any _) ?_; intro wn hwn; replace hb := below_next hb hb.size hwn; clear hwn)
      | (go_at_call 21; refine call_then (gpow_any a n a0 a1 n0 n1 _) ?_; intro wn hwn; replace hb := below_next hb hb.size hwn; clear hwn)
      | (go_at_call 10; refine call_then (e_any _ _) ?_; intro wn hwn; replace hb := below_next hb hb.size hwn; clear hwn)
      | (go_at_call 22; refine call_then (powE a n a0 a1 n0 n1 _) ?_; intro wn hwn; replace hb := below_next hb hb.size hwn; clear hwn)
      | (go_at_call 23; refine call_then (hi.out _) ?_; intro wn hwn; replace hb := below_next hb hb.size hwn; clear hwn)
      | (go_at_call 11; refine (gof_any a a0 a1 _).mono ?_; rintro e w' ⟨rfl, rfl⟩)
      )
    go_ret
    exact ⟨rfl, hb⟩
  · have hi := Lib.hid (ginv_other a a0 a1 hz)
    have hone := inv_one a0 a1 hz
    have hd : (redu 1 a == 0) = false := by simpa using hz
    have hp := pow_bound 1 a 18446744069414584319
    rw [M1] at hp
    generalize pow 1 a 18446744069414584319 = b at *
    have hin : decide (b < 18446744069414584321) = true := by simpa using hp.2
    clear hz
    go_enter Try.func4, Try.ntmps4
    go_wp2_with (first
      | (go_at_call 8; refine call_then (awake_any _) ?_; intro wn hwn; replace hb := below_next hb hb.size hwn; clear hwn)
      | (go_at_call 21; refine call_then (gpow_any a n a0 a1 n0 n1 _) ?_; intro wn hwn; replace hb := below_next hb hb.size hwn; clear hwn)
      | (go_at_call 10; refine call_then (e_any _ _) ?_; intro wn hwn; replace hb := below_next hb hb.size hwn; clear hwn)
      | (go_at_call 22; refine call_then (powE a n a0 a1 n0 n1 _) ?_; intro wn hwn; replace hb := below_next hb hb.size hwn; clear hwn)
      | (go_at_call 23; refine call_then (hi.out _) ?_; intro wn hwn; replace hb := below_next hb hb.size hwn; clear hwn)
      | (go_at_call 11; refine (gof_any a a0 a1 _).mono ?_; rintro e w' ⟨rfl, rfl⟩)
      | (go_at_call 12; refine (gin_any _ _).mono ?_; rintro e w' ⟨rfl, rfl⟩)
      | (go_at_call 20; refine call_then (mulR a b a0 a1 (by omega) (by omega) _) ?_; intro wn hwn; replace hb := below_next hb hb.size hwn; clear hwn)
      )
    go_ret
    exact ⟨rfl, hb⟩

theorem own_goldPowers : ownKnob Try.prog.godebug = none := by kernel_rfl
set_option maxRecDepth 100000 in
theorem lifted_goldPowers (os : Os) (started : os.Started) (H : Type) (enc : TypeId × Value → H) :
    ReturnsInHanded {} Try.checked os 4 .any (Rows.goldPowersSpec.pre6 enc Try.prog Try.f4 Rows.goldPowersRow.domain false) (Rows.goldPowersSpec.post enc Try.prog Try.f4 false true false false) := by
  refine returnsInHanded_of_change (C := Try.checked) own_goldPowers started (by kernel_rfl) Try.func4
    (ChangeSpec.witness6 (enc := enc) (C := Try.checked) false ⟨#[], #[.int .u64 0, .int .u64 0], []⟩ 8 (by kernel_rfl) (by kernel_rfl) (by kernel_rfl) (by kernel_rfl)) ?_
  intro W base args ds gs before hval0 hW hcnd _
  have hval : ∀ (j : Nat) t v, Try.f4.params[j]? = some t → args[j]? = some v → Value.okWide Try.prog W .any base t v := hval0
  have hW' := hW
  obtain ⟨p, q, hA0, hV, rfl, hfz, hnd⟩ := hW
  have hA : DataW.TrodAll enc Try.prog W 0 (fun _ => true) true Try.f4.params.toList args.toList ds p := hA0
  rw [Try.params4] at hA hval
  obtain ⟨v0, vs0, d0, ds0, p0, q0, hargs, rfl, rfl, h0, r0⟩ := trodAll_cons hA
  obtain ⟨v1, vs1, d1, ds1, p1, q1, rfl, rfl, rfl, h1, r1⟩ := trodAll_cons r0
  obtain ⟨rfl, rfl, rfl⟩ := trodAll_nil r1
  obtain rfl : args = #[v0, v1] := by cases args; simp_all
  obtain ⟨rfl, rfl⟩ := trodVars_none hV
  obtain ⟨a0, rfl, rfl, rfl, w0⟩ := open_int Try.underlying22 (hval 0 22 v0 rfl rfl) h0
  obtain ⟨a1, rfl, rfl, rfl, w1⟩ := open_int Try.underlying22 (hval 1 22 v1 rfl rfl) h1
  clear hA0 hval0
  simp only [List.append_nil] at hW'
  refine (goldPowers_walk a0 a1 w0 w1 W).mono fun e W' ⟨he, hb⟩ => ?_
  subst he
  exact ⟨_, rfl, post_of_below (pa := []) (pv := []) hW' (fun _ _ _ => (trodAll_cons_mk (shut_bool Try.underlying4 _) trodAll_mk0)) (fun sp _ => (trodAll_cons_mk (shut_int Try.underlying22 w0) (trodAll_cons_mk (shut_int Try.underlying22 w1) trodAll_mk0))) (fun _ _ => rfl) rfl
    hb (ok_one (by kernel_rfl) rfl (okWide_bool_mk Try.underlying4 _))⟩
theorem over_goldPowers : Rows.goldPowersRow.holds Try.pinned (OpenSpec.ofChange Rows.goldPowersSpec) :=
  OpenClaim.holds_of_wide 4 Try.f4 rfl rfl rfl rfl rfl rfl rfl ⟨rfl, rfl, rfl, rfl, rfl⟩ rfl rfl rfl rfl rfl (by kernel_rfl) Try.func4 (by kernel_rfl)
    (of_decide_eq_true (by kernel_rfl)) (by unfold Func.isWrapper; first | (rw [if_pos (by decide +kernel)]; kernel_rfl) | (rw [if_neg (by decide +kernel)]; exact ⟨rfl, rfl⟩))
    (fun os started H enc _ => lifted_goldPowers os started H enc)
theorem goldPowers_proved : Rows.GoldPowersSaid := over_goldPowers
#print axioms goldPowers_proved
end Go.Proofs.Ytjoghehefefmdaa
