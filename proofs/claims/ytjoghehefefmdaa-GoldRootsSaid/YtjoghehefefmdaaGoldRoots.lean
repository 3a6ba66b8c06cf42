/-
  Any order: gold's root of 1 is of just that order, and the document's; of no other order there is one.
-/
import Derived.Test.YtjoghehefefmdaaGoldPowers
namespace Go.Proofs.Ytjoghehefefmdaa
open Go.ChangeShapes Go.WideShapes Go.ChangeAt Go.RowKit F Flow
set_option linter.unusedVariables false
attribute [local go_sem] eql_elem

theorem wf_i64 {a : Int} (h : (Lit.int .i64 a).wf = true) : -9223372036854775808 ≤ a ∧ a ≤ 9223372036854775807 := by
  simpa [Lit.wf, IntKind.min, IntKind.max, IntKind.signed, IntKind.bits] using h

theorem groot_none (log : Int) (h : log < 0 ∨ 32 < log) (w : World) :
    Calls Try.prog 24 #[.int .i64 log] w fun e w' => e = .returned (.tuple #[.int .u64 0, .int .i64 6]) ∧ Below w.heap.size w w' := by
  by_cases h0 : log < 0
  · clear h
    go_enter Try.func24, Try.ntmps24
    go_wp2
    go_ret2
    exact ⟨rfl, Below.refl _ _⟩
  · have h1 : 32 < log := by omega
    clear h
    go_enter Try.func24, Try.ntmps24
    go_wp2
    go_ret2
    exact ⟨rfl, Below.refl _ _⟩

theorem exp_bound (n : Nat) : (0 : Int) ≤ 18446744069414584320 / 2 ^ n ∧ (18446744069414584320 : Int) / 2 ^ n < 18446744073709551616 := by
  have h := half_bound (x := 18446744069414584320) (by omega) n
  omega

theorem groot_some (log : Int) (h0 : 0 ≤ log) (h1 : log ≤ 32) (w : World) :
    Calls Try.prog 24 #[.int .i64 log] w fun e w' => e = .returned (.tuple #[.int .u64 (pow 1 7 (18446744069414584320 / 2 ^ log.toNat : Int).toNat), .int .i64 0]) ∧ Below w.heap.size w w' := by
  have hb := Below.refl w.heap.size w
  have he := exp_bound log.toNat
  have hp := Lib.hid (gpow_any 7 (18446744069414584320 / 2 ^ log.toNat) (by omega) (by omega) he.1 he.2)
  clear he
  go_enter Try.func24, Try.ntmps24
  go_wp2_with (first
    | (go_at_call 21; refine call_then (hp.out _) ?_; intro wn hwn; replace hb := below_next hb hb.size hwn; clear hwn)
    )
  go_ret2
  exact ⟨rfl, hb⟩

theorem pow_nat (a n : Nat) (ha : a < 18446744069414584321) : pow 1 a n = ((a ^ n % 18446744069414584321 : Nat) : Int) := by
  unfold pow
  rw [gredu_small (by omega) (by omega), M1, Int.natCast_emod, Int.natCast_pow]
  rfl
theorem pow_val (n v f : Nat) (hf : n < 2 ^ f) (h : Prime.pmF 18446744069414584321 7 f n = v) : pow 1 7 n = (v : Int) := by
  rw [← h, Prime.pmF_eq _ _ f n hf]
  exact pow_nat 7 n (by omega)
theorem pow_half : pow 1 7 9223372034707292160 = 18446744069414584320 := pow_val 9223372034707292160 18446744069414584320 64 (by decide) (by decide +kernel)
theorem pow_whole : pow 1 7 18446744069414584320 = 1 := pow_val 18446744069414584320 1 64 (by decide) (by decide +kernel)
theorem exp_halves : ∀ L : Fin 33, 1 ≤ L.val → (18446744069414584320 / 2 ^ L.val : Int).toNat * 2 ^ (L.val - 1) = 9223372034707292160 := by decide
theorem square_one (n k : Nat) : mul 1 (pow 1 7 (n * 2 ^ k)) (pow 1 7 (n * 2 ^ k)) = pow 1 7 (n * 2 ^ (k + 1)) := by
  rw [mul_pow, Nat.pow_succ, ← Nat.mul_two, Nat.mul_assoc]

theorem goldRoots_none (log : Int) (h : log < 0 ∨ 32 < log) (w : World) :
    Calls Try.prog 6 #[.int .i64 log] w fun e w' => e = .returned (.bool true) ∧ Below w.heap.size w w' := by
  have hb := Below.refl w.heap.size w
  have hr := Lib.hid (groot_none log h)
  by_cases h0 : log < 0
  · clear h
    go_enter Try.func6, Try.ntmps6
    go_wp2_with (first
      | (go_at_call 8; refine call_then (awake_any _) ?_; intro wn hwn; replace hb := below_next hb hb.size hwn; clear hwn)
      | (go_at_call 24; refine call_then (hr.out _) ?_; intro wn hwn; replace hb := below_next hb hb.size hwn; clear hwn)
      )
    go_ret
    exact ⟨rfl, hb⟩
  · have h1 : 32 < log := by omega
    clear h
    go_enter Try.func6, Try.ntmps6
    go_wp2_with (first
      | (go_at_call 8; refine call_then (awake_any _) ?_; intro wn hwn; replace hb := below_next hb hb.size hwn; clear hwn)
      | (go_at_call 24; refine call_then (hr.out _) ?_; intro wn hwn; replace hb := below_next hb hb.size hwn; clear hwn)
      )
    go_ret
    exact ⟨rfl, hb⟩

set_option maxHeartbeats 1000000 in
theorem goldRoots_some (L : Nat) (h0 : 1 ≤ L) (h1 : L ≤ 32) (w : World) :
    Calls Try.prog 6 #[.int .i64 L] w fun e w' => e = .returned (.bool true) ∧ Below w.heap.size w w' := by
  have hb := Below.refl w.heap.size w
  have hr := groot_some L (by omega) (by omega)
  rw [Int.toNat_natCast] at hr
  have he := exp_bound L
  have hx := exp_halves ⟨L, by omega⟩ h0
  dsimp only at hx
  have hp := pow_bound 1 7 (18446744069414584320 / 2 ^ L : Int).toNat
  have hpe := Lib.hid (powE 7 (18446744069414584320 / 2 ^ L) (by omega) (by omega) he.1 he.2)
  rw [M1] at hp
  replace hr := Lib.hid hr
  replace hx := Lib.hid hx
  have hh := Lib.hid pow_half
  have hc : ((L : Int) == 0) = false := by simp; omega
  have hmax : max ((L : Int) - 1) 0 = (L : Int) - 1 := by omega
  go_enter Try.func6, Try.ntmps6
  go_wp2_with (first
    | (go_at_call 8; refine call_then (awake_any _) ?_; intro wn hwn; replace hb := below_next hb hb.size hwn; clear hwn)
    | (go_at_call 24; refine call_then (hr.out _) ?_; intro wn hwn; replace hb := below_next hb hb.size hwn; clear hwn)
    )
  generalize hn : (18446744069414584320 / 2 ^ L : Int).toNat = n at *
  go_loopw [5, 29] (fun x j wr => ∃ k : Nat, k ≤ L - 1 ∧ j = .int .i64 k ∧ x = .int .u64 (pow 1 7 (n * 2 ^ k)) ∧ Below w.heap.size w wr) (fun _ j _ => L - (intOf j).toNat)
  case atStart => exact ⟨0, Nat.zero_le _, rfl, by rw [Nat.pow_zero, Nat.mul_one], hb⟩
  case round =>
    obtain ⟨k, hk, rfl, rfl, hb⟩ := hrel
    have hq := pow_bound 1 7 (n * 2 ^ k)
    rw [M1] at hq
    by_cases hlt : (k : Int) < (L : Int) - 1
    · have hs := Lib.hid (square_one n k)
      go_wp2_with (first
        | (go_at_call 19; refine call_then (gmul_any _ _ hq.1 (by omega) hq.1 (by omega) _) ?_; intro wn hwn; replace hb := below_next hb hb.size hwn; clear hwn)
        )
      go_roundw
      case rel => exact ⟨k + 1, by omega, by go_num, by rw [hs.out], hb⟩
      case measure => simp [intOf]; omega
    · obtain rfl : k = L - 1 := by omega
      have hv : pow 1 7 (n * 2 ^ (L - 1)) = 18446744069414584320 := by rw [hx.out]; exact hh.out
      rw [hv]
      clear hv hq hmax hp
      have hL : (0 : Int) ≤ (L : Int) := by omega
      go_wp2
      refine wp_region_flow0 (by kernel_rfl) (by kernel_rfl) ?_
      intro ι _ φ hφ
      repeat (go_big_quiet_step ((first
        | (go_at_call 10; exact flow_call hφ (e_any _ _))
        | (go_at_call 22; exact flow_call hφ (hpe.out _)))))
      refine wpQuiet_nil ?_
      intro w4 hw4
      go_wp2
      go_ret
      exact ⟨rfl, below_next hb hb.size hw4⟩

theorem goldRoots_zero (w : World) :
    Calls Try.prog 6 #[.int .i64 0] w fun e w' => e = .returned (.bool true) ∧ Below w.heap.size w w' := by
  have hb := Below.refl w.heap.size w
  have hr := groot_some 0 (by omega) (by omega)
  rw [show (18446744069414584320 / 2 ^ (0 : Int).toNat : Int).toNat = 18446744069414584320 from rfl, pow_whole] at hr
  replace hr := Lib.hid hr
  go_enter Try.func6, Try.ntmps6
  go_wp2_with (first
    | (go_at_call 8; refine call_then (awake_any _) ?_; intro wn hwn; replace hb := below_next hb hb.size hwn; clear hwn)
    | (go_at_call 24; refine call_then (hr.out _) ?_; intro wn hwn; replace hb := below_next hb hb.size hwn; clear hwn)
    )
  go_loopw [5, 29] (fun x j wr => j = .int .i64 0 ∧ x = .int .u64 1 ∧ Below w.heap.size w wr) (fun _ _ _ => 0)
  case atStart => exact ⟨rfl, rfl, hb⟩
  case round =>
    obtain ⟨rfl, rfl, hb⟩ := hrel
    go_wp2
    go_ret
    exact ⟨rfl, hb⟩

theorem goldRoots_walk (log : Int) (wl : (Lit.int .i64 log).wf = true) (w : World) :
    Calls Try.prog 6 #[.int .i64 log] w fun e w' => e = .returned (.bool true) ∧ Below w.heap.size w w' := by
  by_cases h : log < 0 ∨ 32 < log
  · exact goldRoots_none log h w
  · obtain ⟨L, rfl⟩ := Int.eq_ofNat_of_zero_le (by omega : 0 ≤ log)
    by_cases h0 : L = 0
    · subst h0; exact goldRoots_zero w
    · exact goldRoots_some L (by omega) (by omega) w

theorem own_goldRoots : ownKnob Try.prog.godebug = none := by kernel_rfl
set_option maxRecDepth 100000 in
theorem lifted_goldRoots (os : Os) (started : os.Started) (H : Type) (enc : TypeId × Value → H) :
    ReturnsInHanded {} Try.checked os 6 .any (Rows.goldRootsSpec.pre6 enc Try.prog Try.f6 Rows.goldRootsRow.domain false) (Rows.goldRootsSpec.post enc Try.prog Try.f6 false true false false) := by
  refine returnsInHanded_of_change (C := Try.checked) own_goldRoots started (by kernel_rfl) Try.func6
    (ChangeSpec.witness6 (enc := enc) (C := Try.checked) false ⟨#[], #[.int .i64 0], []⟩ 8 (by kernel_rfl) (by kernel_rfl) (by kernel_rfl) (by kernel_rfl)) ?_
  intro W base args ds gs before hval0 hW hcnd _
  have hval : ∀ (j : Nat) t v, Try.f6.params[j]? = some t → args[j]? = some v → Value.okWide Try.prog W .any base t v := hval0
  have hW' := hW
  obtain ⟨p, q, hA0, hV, rfl, hfz, hnd⟩ := hW
  have hA : DataW.TrodAll enc Try.prog W 0 (fun _ => true) true Try.f6.params.toList args.toList ds p := hA0
  rw [Try.params6] at hA hval
  obtain ⟨v0, vs0, d0, ds0, p0, q0, hargs, rfl, rfl, h0, r0⟩ := trodAll_cons hA
  obtain ⟨rfl, rfl, rfl⟩ := trodAll_nil r0
  obtain rfl : args = #[v0] := by cases args; simp_all
  obtain ⟨rfl, rfl⟩ := trodVars_none hV
  obtain ⟨a0, rfl, rfl, rfl, w0⟩ := open_int Try.underlying3 (hval 0 3 v0 rfl rfl) h0
  clear hA0 hval0
  simp only [List.append_nil] at hW'
  refine (goldRoots_walk a0 w0 W).mono fun e W' ⟨he, hb⟩ => ?_
  subst he
  exact ⟨_, rfl, post_of_below (pa := []) (pv := []) hW' (fun _ _ _ => (trodAll_cons_mk (shut_bool Try.underlying4 _) trodAll_mk0)) (fun sp _ => (trodAll_cons_mk (shut_int Try.underlying3 w0) trodAll_mk0)) (fun _ _ => rfl) rfl
    hb (ok_one (by kernel_rfl) rfl (okWide_bool_mk Try.underlying4 _))⟩
theorem over_goldRoots : Rows.goldRootsRow.holds Try.pinned (OpenSpec.ofChange Rows.goldRootsSpec) :=
  OpenClaim.holds_of_wide 6 Try.f6 rfl rfl rfl rfl rfl rfl rfl ⟨rfl, rfl, rfl, rfl, rfl⟩ rfl rfl rfl rfl rfl (by kernel_rfl) Try.func6 (by kernel_rfl)
    (of_decide_eq_true (by kernel_rfl)) (by unfold Func.isWrapper; first | (rw [if_pos (by decide +kernel)]; kernel_rfl) | (rw [if_neg (by decide +kernel)]; exact ⟨rfl, rfl⟩))
    (fun os started H enc _ => lifted_goldRoots os started H enc)
theorem goldRoots_proved : Rows.GoldRootsSaid := over_goldRoots
#print axioms goldRoots_proved
end Go.Proofs.Ytjoghehefefmdaa
