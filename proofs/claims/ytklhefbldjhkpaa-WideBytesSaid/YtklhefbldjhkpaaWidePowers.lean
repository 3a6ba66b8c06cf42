/-
  Any number to any power is the document's; by what wide's Inv says a number is 1, and of 0 it says that there is none.
-/
import Derived.Test.YtklhefbldjhkpaaWideG
import Derived.Test.YtklhefbldjhkpaaPrime
namespace Go.Proofs.Ytklhefbldjhkpaa
open Go.ChangeShapes Go.WideShapes Go.ChangeAt Go.RowKit F Flow
set_option linter.unusedVariables false
attribute [local go_sem] eql_elem

/-- Fermat, of the large field. -/
theorem winv_one {a : Int} (h0 : 0 ≤ a) (hz : redu 2 a ≠ 0) : mul 2 a (pow 2 a 340282366920938462946865773367900766207) = 1 := by
  have hb := redu_nonneg 2 a
  have hl := redu_lt 2 a
  have hp := pow_bound 2 a 340282366920938462946865773367900766207
  have e : mul 2 a (pow 2 a 340282366920938462946865773367900766207) = redu 2 a ^ 340282366920938462946865773367900766208 % M 2 := by
    rw [show mul 2 a (pow 2 a 340282366920938462946865773367900766207) = redu 2 a * redu 2 (pow 2 a 340282366920938462946865773367900766207) % M 2 from rfl, redu_small (by decide) hp.1 hp.2]
    rw [show pow 2 a 340282366920938462946865773367900766207 = redu 2 a ^ 340282366920938462946865773367900766207 % M 2 from rfl, Int.mul_emod, Int.emod_emod, ← Int.mul_emod, Int.mul_comm, ← Int.pow_succ]
  rw [e]
  rw [M2] at *
  obtain ⟨n, hn⟩ := Int.eq_ofNat_of_zero_le hb
  rw [hn] at hz hl ⊢
  have hnd : ¬ 340282366920938462946865773367900766209 ∣ n := fun h => by
    have := Nat.le_of_dvd (by omega) h
    omega
  have hf := Prime.fermat_one Prime.large_prime hnd
  rw [show (340282366920938462946865773367900766209 : Int) = ((340282366920938462946865773367900766209 : Nat) : Int) from rfl, ← Int.natCast_pow, ← Int.natCast_emod]
  rw [show 340282366920938462946865773367900766209 - 1 = 340282366920938462946865773367900766208 from rfl] at hf
  rw [hf]
  rfl

set_option maxHeartbeats 1000000 in
theorem winv_zero (a : Int) (h0 : 0 ≤ a) (h1 : a < 340282366920938463463374607431768211456) (hz : redu 2 a = 0) (w : World) :
    Calls Try.prog 22 #[.agg #[.int .u64 (lo a), .int .u64 (hi a)]] w fun e w' => e = .returned (.tuple #[.agg #[.int .u64 (lo 0), .int .u64 (hi 0)], .int .i64 8]) ∧ Below w.heap.size w w' := by
  have z0 : lo 0 = 0 := rfl
  have z1 : hi 0 = 0 := rfl
  have hc := wof_any a h0 h1
  rw [hz] at hc
  replace hc := Lib.hid hc
  go_enter Try.func22, Try.ntmps22
  go_wp2_with fail
  refine name_calls (fun w1 => Below w.heap.size w w1 ∧ w1.heap[w.heap.size]? = some (.cells #[.int .u64 (lo a), .int .u64 (hi a)] 24 (0, 0)) ∧ w1.heap[w.heap.size + 1]? = some (.cells #[.int .u64 0, .int .u64 0] 24 (0, 0)))
    ⟨(((Below.refl _ _).alloc (Nat.le_refl _) _).alloc (by simp) _), alloc_keeps (alloc_at rfl), alloc_at (by simp)⟩ ?_
  rintro w1 ⟨b1, k0, k1⟩
  refine call_then (hc.out _) ?_
  intro w2 hw2
  replace b1 := below_next b1 b1.size hw2
  replace k0 := keeps hw2 k0
  replace k1 := keeps hw2 k1
  clear hw2
  obtain ⟨c0, d0, f0, g0⟩ := blk2 k0
  obtain ⟨c1, d1, f1, g1⟩ := blk2 k1
  go_wp2
  obtain ⟨c2, d2, _, _⟩ := blk2 (store2 (u := .int .u64 0) (v := .int .u64 0) k1)
  exact bodyPost_ret (v := .tuple #[.agg #[.int .u64 0, .int .u64 0], .int .i64 8]) (by simp [results, Try.results22, go_sem, c2, d2]) rfl ⟨rfl, below_store2 b1 (by omega)⟩
set_option maxHeartbeats 1000000 in
theorem winv_other (a : Int) (h0 : 0 ≤ a) (h1 : a < 340282366920938463463374607431768211456) (hz : redu 2 a ≠ 0) (w : World) :
    Calls Try.prog 22 #[.agg #[.int .u64 (lo a), .int .u64 (hi a)]] w fun e w' => e = .returned (.tuple #[.agg #[.int .u64 (lo (pow 2 a 340282366920938462946865773367900766207)), .int .u64 (hi (pow 2 a 340282366920938462946865773367900766207))], .int .i64 0]) ∧ Below w.heap.size w w' := by
  have hd : (lo (redu 2 a) == 0 && hi (redu 2 a) == 0) = false := by rw [zero_iff (redu_nonneg 2 a)]; simpa using hz
  have hl := wless_any (M 2) 2 (by omega) (by decide) (by decide)
  rw [show M 2 - 2 = 340282366920938462946865773367900766207 from rfl, show lo 2 = 2 from rfl, show hi 2 = 0 from rfl] at hl
  have hp := wpow_any a 340282366920938462946865773367900766207 h0 h1 (by omega) (by omega)
  rw [show (340282366920938462946865773367900766207 : Int).toNat = 340282366920938462946865773367900766207 from rfl] at hp
  generalize pow 2 a 340282366920938462946865773367900766207 = z at *
  replace hl := Lib.hid hl
  replace hp := Lib.hid hp
  go_enter Try.func22, Try.ntmps22
  go_wp2_with fail
  refine name_calls (fun w1 => Below w.heap.size w w1 ∧ w1.heap[w.heap.size]? = some (.cells #[.int .u64 (lo a), .int .u64 (hi a)] 24 (0, 0)) ∧ w1.heap[w.heap.size + 1]? = some (.cells #[.int .u64 0, .int .u64 0] 24 (0, 0)))
    ⟨(((Below.refl _ _).alloc (Nat.le_refl _) _).alloc (by simp) _), alloc_keeps (alloc_at rfl), alloc_at (by simp)⟩ ?_
  rintro w1 ⟨b1, k0, k1⟩
  refine call_then (wof_any a h0 h1 _) ?_
  intro w2 hw2
  replace b1 := below_next b1 b1.size hw2
  replace k0 := keeps hw2 k0
  replace k1 := keeps hw2 k1
  clear hw2
  go_wp2
  refine wp_region_flow1 5 (by kernel_rfl) (by kernel_rfl) (by kernel_rfl) ?_
  apply Exists.intro
  refine ⟨fun ι _ φ hφ => ?_, fun wt hwt => ?_⟩
  · obtain ⟨e0, e1⟩ := hφ.two k0
    simp only [List.take_succ_cons, List.take_zero]
    repeat (go_big_quiet_step ((first
      | (go_at_call 27; exact flow_call hφ (wp_any _))
      | (go_at_call 32; exact flow_call hφ (hl.out _))
      | (go_at_call 20; exact flow_call hφ (hp.out _)))))
    exact wpQuiet_nil rfl
  replace b1 := below_next b1 b1.size hwt
  replace k1 := keeps hwt k1
  clear hwt k0
  obtain ⟨c1, d1, f1, g1⟩ := blk2 k1
  simp only [List.drop_succ_cons, List.drop_zero]
  go_wp2
  obtain ⟨c2, d2, _, _⟩ := blk2 (store2 (u := .int .u64 (lo z)) (v := .int .u64 (hi z)) k1)
  exact bodyPost_ret (v := .tuple #[.agg #[.int .u64 (lo z), .int .u64 (hi z)], .int .i64 0]) (by simp [results, Try.results22, go_sem, c2, d2]) rfl ⟨rfl, below_store2 b1 (by omega)⟩

set_option maxHeartbeats 4000000 in
theorem widePowers_zero (a n : Int) (a0 : 0 ≤ a) (a1 : a < 340282366920938463463374607431768211456) (n0 : 0 ≤ n) (n1 : n < 340282366920938463463374607431768211456) (hz : redu 2 a = 0) (w : World) :
    Calls Try.prog 4 #[.agg #[.int .u64 (lo a), .int .u64 (hi a)], .agg #[.int .u64 (lo n), .int .u64 (hi n)]] w fun e w' => e = .returned (.bool true) ∧ Below w.heap.size w w' := by
  have hI := Lib.hid (winv_zero a a0 a1 hz)
  have hc := wof_any a a0 a1
  rw [hz] at hc
  have z0 : lo 0 = 0 := rfl
  have z1 : hi 0 = 0 := rfl
  replace hc := Lib.hid hc
  go_enter Try.func4, Try.ntmps4
  go_wp2_with fail
  refine name_calls (fun w1 => Below w.heap.size w w1 ∧ w1.heap[w.heap.size]? = some (.cells #[.int .u64 (lo a), .int .u64 (hi a)] 24 (0, 0)) ∧ w1.heap[w.heap.size + 1]? = some (.cells #[.int .u64 (lo n), .int .u64 (hi n)] 24 (0, 0)))
    ⟨((Below.refl _ _).alloc (Nat.le_refl _) _).alloc (by simp) _, alloc_keeps (alloc_at rfl), alloc_at (by simp)⟩ ?_
  rintro w1 ⟨hb, k0, k1⟩
  refine call_then (wawake_any _) ?_
  intro w2 hw2
  replace hb := below_next hb hb.size hw2
  replace k0 := keeps hw2 k0
  replace k1 := keeps hw2 k1
  clear hw2
  go_wp2
  refine wp_region_flow0 (by kernel_rfl) (by kernel_rfl) ?_
  intro ι _ φ hφ
  obtain ⟨c0, d0⟩ := hφ.two k0
  obtain ⟨c1, d1⟩ := hφ.two k1
  repeat (go_big_quiet_step ((first
    | (go_at_call 20; exact flow_call hφ (wpow_any a n a0 a1 n0 n1 _))
    | (go_at_call 21; exact flow_call hφ (pow_any 2 a n a0 a1 n0 n1 _)))))
  refine wpQuiet_nil ?_
  intro w5 hw5
  clear c0 d0 c1 d1 hφ
  replace hb := below_next hb hb.size hw5
  replace k0 := keeps hw5 k0
  clear hw5 k1
  obtain ⟨c0, d0, f0, g0⟩ := blk2 k0
  go_wp2_with fail
  refine call_then (hI.out _) ?_
  intro w6 hw6
  clear c0 d0 f0 g0
  replace hb := below_next hb hb.size hw6
  replace k0 := keeps hw6 k0
  clear hw6
  have hbig : w.heap.size < w6.heap.size := lt_of_get k0
  have hne : w.heap.size ≠ w6.heap.size := by omega
  obtain ⟨c0, d0, f0, g0⟩ := blk2 k0
  go_wp2_with fail
  clear c0 d0 f0 g0
  refine name_calls (fun w7 => Below w.heap.size w w7 ∧ w7.heap[w.heap.size]? = some (.cells #[.int .u64 (lo a), .int .u64 (hi a)] 24 (0, 0)) ∧ w7.heap[w6.heap.size]? = some (.cells #[.int .u64 0, .int .u64 0] 24 (0, 0)))
    ⟨hb.alloc hb.size _, alloc_keeps k0, alloc_at rfl⟩ ?_
  clear hb k0
  generalize w6.heap.size = p at *
  rintro w7 ⟨hb, k0, k1⟩
  refine call_then (hc.out _) ?_
  intro w8 hw8
  replace hb := below_next hb hb.size hw8
  replace k0 := keeps hw8 k0
  replace k1 := keeps hw8 k1
  clear hw8
  obtain ⟨c0, d0, f0, g0⟩ := blk2 k0
  obtain ⟨c1, d1, f1, g1⟩ := blk2 k1
  go_wp2
  go_ret
  exact ⟨rfl, hb⟩
set_option maxHeartbeats 4000000 in
theorem widePowers_other (a n : Int) (a0 : 0 ≤ a) (a1 : a < 340282366920938463463374607431768211456) (n0 : 0 ≤ n) (n1 : n < 340282366920938463463374607431768211456) (hz : redu 2 a ≠ 0) (w : World) :
    Calls Try.prog 4 #[.agg #[.int .u64 (lo a), .int .u64 (hi a)], .agg #[.int .u64 (lo n), .int .u64 (hi n)]] w fun e w' => e = .returned (.bool true) ∧ Below w.heap.size w w' := by
  have hI := winv_other a a0 a1 hz
  have hone := winv_one a0 hz
  have hd : (lo (redu 2 a) == 0 && hi (redu 2 a) == 0) = false := by rw [zero_iff (redu_nonneg 2 a)]; simpa using hz
  have hp := pow_bound 2 a 340282366920938462946865773367900766207
  generalize pow 2 a 340282366920938462946865773367900766207 = z at *
  have hin : decide (z < M 2) = true := by simpa using hp.2
  rw [M2] at hp
  have z0 : lo 1 = 1 := rfl
  have z1 : hi 1 = 0 := rfl
  have hmul := mul_any 2 a z a0 a1 hp.1 (by omega)
  rw [hone] at hmul
  replace hmul := Lib.hid hmul
  replace hI := Lib.hid hI
  go_enter Try.func4, Try.ntmps4
  go_wp2_with fail
  refine name_calls (fun w1 => Below w.heap.size w w1 ∧ w1.heap[w.heap.size]? = some (.cells #[.int .u64 (lo a), .int .u64 (hi a)] 24 (0, 0)) ∧ w1.heap[w.heap.size + 1]? = some (.cells #[.int .u64 (lo n), .int .u64 (hi n)] 24 (0, 0)))
    ⟨((Below.refl _ _).alloc (Nat.le_refl _) _).alloc (by simp) _, alloc_keeps (alloc_at rfl), alloc_at (by simp)⟩ ?_
  rintro w1 ⟨hb, k0, k1⟩
  refine call_then (wawake_any _) ?_
  intro w2 hw2
  replace hb := below_next hb hb.size hw2
  replace k0 := keeps hw2 k0
  replace k1 := keeps hw2 k1
  clear hw2
  go_wp2
  refine wp_region_flow0 (by kernel_rfl) (by kernel_rfl) ?_
  intro ι _ φ hφ
  obtain ⟨c0, d0⟩ := hφ.two k0
  obtain ⟨c1, d1⟩ := hφ.two k1
  repeat (go_big_quiet_step ((first
    | (go_at_call 20; exact flow_call hφ (wpow_any a n a0 a1 n0 n1 _))
    | (go_at_call 21; exact flow_call hφ (pow_any 2 a n a0 a1 n0 n1 _)))))
  refine wpQuiet_nil ?_
  intro w5 hw5
  clear c0 d0 c1 d1 hφ
  replace hb := below_next hb hb.size hw5
  replace k0 := keeps hw5 k0
  clear hw5 k1
  obtain ⟨c0, d0, f0, g0⟩ := blk2 k0
  go_wp2_with fail
  refine call_then (hI.out _) ?_
  intro w6 hw6
  clear c0 d0 f0 g0
  replace hb := below_next hb hb.size hw6
  replace k0 := keeps hw6 k0
  clear hw6
  have hbig : w.heap.size < w6.heap.size := lt_of_get k0
  have hne : w.heap.size ≠ w6.heap.size := by omega
  obtain ⟨c0, d0, f0, g0⟩ := blk2 k0
  go_wp2_with fail
  clear c0 d0 f0 g0
  refine name_calls (fun w7 => Below w.heap.size w w7 ∧ w7.heap[w.heap.size]? = some (.cells #[.int .u64 (lo a), .int .u64 (hi a)] 24 (0, 0)) ∧ w7.heap[w6.heap.size]? = some (.cells #[.int .u64 (lo z), .int .u64 (hi z)] 24 (0, 0)))
    ⟨hb.alloc hb.size _, alloc_keeps k0, alloc_at rfl⟩ ?_
  clear hb k0
  generalize w6.heap.size = p at *
  rintro w7 ⟨hb, k0, k1⟩
  refine call_then (wof_any a a0 a1 _) ?_
  intro w8 hw8
  replace hb := below_next hb hb.size hw8
  replace k0 := keeps hw8 k0
  replace k1 := keeps hw8 k1
  clear hw8
  obtain ⟨c0, d0, f0, g0⟩ := blk2 k0
  obtain ⟨c1, d1, f1, g1⟩ := blk2 k1
  go_wp2_with fail
  clear c0 d0 f0 g0 c1 d1 f1 g1
  refine call_then (win_any z _) ?_
  intro w8 hw8
  replace hb := below_next hb hb.size hw8
  replace k0 := keeps hw8 k0
  replace k1 := keeps hw8 k1
  clear hw8
  obtain ⟨c0, d0, f0, g0⟩ := blk2 k0
  obtain ⟨c1, d1, f1, g1⟩ := blk2 k1
  go_wp2_with fail
  clear c0 d0 f0 g0 c1 d1 f1 g1
  refine call_then (hmul.out _) ?_
  intro w8 hw8
  replace hb := below_next hb hb.size hw8
  replace k0 := keeps hw8 k0
  replace k1 := keeps hw8 k1
  clear hw8
  obtain ⟨c0, d0, f0, g0⟩ := blk2 k0
  obtain ⟨c1, d1, f1, g1⟩ := blk2 k1
  go_wp2
  go_ret
  exact ⟨rfl, hb⟩
theorem widePowers_walk (a n : Int) (a0 : 0 ≤ a) (a1 : a < 340282366920938463463374607431768211456) (n0 : 0 ≤ n) (n1 : n < 340282366920938463463374607431768211456) (w : World) :
    Calls Try.prog 4 #[.agg #[.int .u64 (lo a), .int .u64 (hi a)], .agg #[.int .u64 (lo n), .int .u64 (hi n)]] w fun e w' => e = .returned (.bool true) ∧ Below w.heap.size w w' := by
  by_cases hz : redu 2 a = 0
  · exact widePowers_zero a n a0 a1 n0 n1 hz w
  · exact widePowers_other a n a0 a1 n0 n1 hz w

theorem own_widePowers : ownKnob Try.prog.godebug = none := by kernel_rfl
set_option maxRecDepth 100000 in
theorem lifted_widePowers (os : Os) (started : os.Started) (H : Type) (enc : TypeId × Value → H) :
    ReturnsInHanded {} Try.checked os 4 .any (Rows.widePowersSpec.pre6 enc Try.prog Try.f4 Rows.widePowersRow.domain false) (Rows.widePowersSpec.post enc Try.prog Try.f4 false true false false) := by
  refine returnsInHanded_of_change (C := Try.checked) own_widePowers started (by kernel_rfl) Try.func4
    (ChangeSpec.witness6 (enc := enc) (C := Try.checked) false ⟨#[], #[.agg #[.int .u64 0, .int .u64 0], .agg #[.int .u64 0, .int .u64 0]], []⟩ 8 (by kernel_rfl) (by kernel_rfl) (by kernel_rfl) (by kernel_rfl)) ?_
  intro W base args ds gs before hval0 hW hcnd _
  have hval : ∀ (j : Nat) t v, Try.f4.params[j]? = some t → args[j]? = some v → Value.okWide Try.prog W .any base t v := hval0
  have hW' := hW
  obtain ⟨p, q, hA0, hV, rfl, hfz, hnd⟩ := hW
  have hA : DataW.TrodAll enc Try.prog W 0 (fun _ => true) true Try.f4.params.toList args.toList ds p := hA0
  rw [Try.params4] at hA hval
  obtain ⟨v0, vs0, d0, ds0, p0, q0, hargs, rfl, rfl, h0, r0⟩ := trodAll_cons hA
  obtain ⟨v1, vs1, d1, ds1, p1, q1, rfl, rfl, rfl, h1, r1⟩ := trodAll_cons r0
  obtain ⟨rfl, rfl, rfl⟩ := trodAll_nil r1
  obtain rfl : args = #[v0, v1] := by cases args; simp_all
  obtain ⟨rfl, rfl⟩ := trodVars_none hV
  obtain ⟨a0, w0, u0, rfl, rfl, rfl⟩ := open_elem (hval 0 24 v0 rfl rfl) h0
  obtain ⟨a1, w1, u1, rfl, rfl, rfl⟩ := open_elem (hval 1 24 v1 rfl rfl) h1
  clear hA0 hval0
  simp only [List.append_nil] at hW'
  refine (widePowers_walk a0 a1 w0 u0 w1 u1 W).mono fun e W' ⟨he, hb⟩ => ?_
  subst he
  exact ⟨_, rfl, post_of_below (pa := []) (pv := []) hW' (fun _ _ _ => (trodAll_cons_mk (shut_bool Try.underlying4 _) trodAll_mk0)) (fun sp _ => (trodAll_cons_mk (shut_elem w0 u0) (trodAll_cons_mk (shut_elem w1 u1) trodAll_mk0))) (fun _ _ => rfl) rfl
    hb (ok_one (by kernel_rfl) rfl (okWide_bool_mk Try.underlying4 _))⟩
theorem over_widePowers : Rows.widePowersRow.holds Try.pinned (OpenSpec.ofChange Rows.widePowersSpec) :=
  OpenClaim.holds_of_wide 4 Try.f4 rfl rfl rfl rfl rfl rfl rfl ⟨rfl, rfl, rfl, rfl, rfl⟩ rfl rfl rfl rfl rfl (by kernel_rfl) Try.func4 (by kernel_rfl)
    (of_decide_eq_true (by kernel_rfl)) (by unfold Func.isWrapper; first | (rw [if_pos (by decide +kernel)]; kernel_rfl) | (rw [if_neg (by decide +kernel)]; exact ⟨rfl, rfl⟩))
    (fun os started H enc _ => lifted_widePowers os started H enc)
theorem widePowers_proved : Rows.WidePowersSaid := over_widePowers
#print axioms widePowers_proved
end Go.Proofs.Ytklhefbldjhkpaa
