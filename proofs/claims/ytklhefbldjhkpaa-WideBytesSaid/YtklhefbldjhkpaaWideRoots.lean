/-
  Any order: wide's root of 1 is of just that order; of no other order there is one.
-/
import Derived.Test.YtklhefbldjhkpaaWidePowers
namespace Go.Proofs.Ytklhefbldjhkpaa
open Go.ChangeShapes Go.WideShapes Go.ChangeAt Go.RowKit F Flow
set_option linter.unusedVariables false
attribute [local go_sem] eql_elem

theorem wf_i64 {a : Int} (h : (Lit.int .i64 a).wf = true) : -9223372036854775808 ≤ a ∧ a ≤ 9223372036854775807 := by
  simpa [Lit.wf, IntKind.min, IntKind.max, IntKind.signed, IntKind.bits] using h

theorem wroot_none (log : Int) (h : log < 0 ∨ 66 < log) (w : World) :
    Calls Try.prog 23 #[.int .i64 log] w fun e w' => e = .returned (.tuple #[.agg #[.int .u64 0, .int .u64 0], .int .i64 6]) ∧ Below w.heap.size w w' := by
  by_cases h0 : log < 0
  · clear h
    go_enter Try.func23, Try.ntmps23
    go_wp2
    exact bodyPost_ret (v := .tuple #[.agg #[.int .u64 0, .int .u64 0], .int .i64 6]) (by simp [results, Try.results23, go_sem]) rfl ⟨rfl, (Below.refl _ _).alloc (Nat.le_refl _) _⟩
  · have h1 : 66 < log := by omega
    clear h
    go_enter Try.func23, Try.ntmps23
    go_wp2
    exact bodyPost_ret (v := .tuple #[.agg #[.int .u64 0, .int .u64 0], .int .i64 6]) (by simp [results, Try.results23, go_sem]) rfl ⟨rfl, (Below.refl _ _).alloc (Nat.le_refl _) _⟩

theorem wexp_bound (n : Nat) : (0 : Int) ≤ 340282366920938462946865773367900766208 / 2 ^ n ∧ (340282366920938462946865773367900766208 : Int) / 2 ^ n < 340282366920938463463374607431768211456 := by
  have h := half_bound (x := 340282366920938462946865773367900766208) (by omega) n
  omega

set_option maxHeartbeats 1000000 in
theorem wroot_some (log : Int) (h0 : 0 ≤ log) (h1 : log ≤ 66) (w : World) :
    Calls Try.prog 23 #[.int .i64 log] w fun e w' => e = .returned (.tuple #[.agg #[.int .u64 (lo (pow 2 7 (340282366920938462946865773367900766208 / 2 ^ log.toNat : Int).toNat)), .int .u64 (hi (pow 2 7 (340282366920938462946865773367900766208 / 2 ^ log.toNat : Int).toNat))], .int .i64 0]) ∧ Below w.heap.size w w' := by
  have he := wexp_bound log.toNat
  have hp := wpow_any 7 (340282366920938462946865773367900766208 / 2 ^ log.toNat) (by omega) (by omega) he.1 he.2
  rw [show lo 7 = 7 from rfl, show hi 7 = 0 from rfl] at hp
  have hl := wless_any (M 2) 1 (by omega) (by decide) (by decide)
  rw [show M 2 - 1 = 340282366920938462946865773367900766208 from rfl, show lo 1 = 1 from rfl, show hi 1 = 0 from rfl] at hl
  have hs := wshift_any 340282366920938462946865773367900766208 log (by omega) (by omega) h0 (by omega)
  generalize pow 2 7 (340282366920938462946865773367900766208 / 2 ^ log.toNat : Int).toNat = z at *
  generalize (340282366920938462946865773367900766208 / 2 ^ log.toNat : Int) = n at *
  replace hl := Lib.hid hl
  replace hp := Lib.hid hp
  replace hs := Lib.hid hs
  go_enter Try.func23, Try.ntmps23
  go_wp2_with fail
  refine name_calls (fun w1 => Below w.heap.size w w1 ∧ w1.heap[w.heap.size]? = some (.cells #[.int .u64 0, .int .u64 0] 24 (0, 0)))
    ⟨(Below.refl _ _).alloc (Nat.le_refl _) _, alloc_at rfl⟩ ?_
  rintro w1 ⟨b1, k0⟩
  refine call_then (wp_any _) ?_
  intro w2 hw2
  replace b1 := below_next b1 b1.size hw2
  replace k0 := keeps hw2 k0
  clear hw2
  go_wp2_with fail
  refine call_then (hl.out _) ?_
  intro w3 hw3
  replace b1 := below_next b1 b1.size hw3
  replace k0 := keeps hw3 k0
  clear hw3
  go_wp2_with fail
  refine call_then (hs.out _) ?_
  intro w4 hw4
  replace b1 := below_next b1 b1.size hw4
  replace k0 := keeps hw4 k0
  clear hw4
  go_wp2_with fail
  refine call_then (hp.out _) ?_
  intro w5 hw5
  replace b1 := below_next b1 b1.size hw5
  replace k0 := keeps hw5 k0
  clear hw5
  obtain ⟨c0, d0, f0, g0⟩ := blk2 k0
  go_wp2
  obtain ⟨c2, d2, _, _⟩ := blk2 (store2 (u := .int .u64 (lo z)) (v := .int .u64 (hi z)) k0)
  exact bodyPost_ret (v := .tuple #[.agg #[.int .u64 (lo z), .int .u64 (hi z)], .int .i64 0]) (by simp [results, Try.results23, go_sem, c2, d2]) rfl ⟨rfl, below_store2 b1 (Nat.le_refl _)⟩

theorem wpow_nat (a n : Nat) (ha : a < 340282366920938462946865773367900766209) : pow 2 a n = ((a ^ n % 340282366920938462946865773367900766209 : Nat) : Int) := by
  unfold pow
  rw [redu_small (by decide) (by omega) (by rw [M2]; omega), M2, Int.natCast_emod, Int.natCast_pow]
  rfl
theorem wpow_val (n v f : Nat) (hf : n < 2 ^ f) (h : Prime.pmF 340282366920938462946865773367900766209 7 f n = v) : pow 2 7 n = (v : Int) := by
  rw [← h, Prime.pmF_eq _ _ f n hf]
  exact wpow_nat 7 n (by omega)
theorem wpow_half : pow 2 7 170141183460469231473432886683950383104 = 340282366920938462946865773367900766208 := wpow_val 170141183460469231473432886683950383104 340282366920938462946865773367900766208 128 (by decide +kernel) (by decide +kernel)
theorem wpow_whole : pow 2 7 340282366920938462946865773367900766208 = 1 := wpow_val 340282366920938462946865773367900766208 1 128 (by decide +kernel) (by decide +kernel)
theorem wexp_halves : ∀ L : Fin 67, 1 ≤ L.val → (340282366920938462946865773367900766208 / 2 ^ L.val : Int).toNat * 2 ^ (L.val - 1) = 170141183460469231473432886683950383104 := by decide +kernel
theorem wsquare_one (n k : Nat) : mul 2 (pow 2 7 (n * 2 ^ k)) (pow 2 7 (n * 2 ^ k)) = pow 2 7 (n * 2 ^ (k + 1)) := by
  rw [mul_pow, Nat.pow_succ, ← Nat.mul_two, Nat.mul_assoc]

theorem wideRoots_none (log : Int) (h : log < 0 ∨ 66 < log) (w : World) :
    Calls Try.prog 6 #[.int .i64 log] w fun e w' => e = .returned (.bool true) ∧ Below w.heap.size w w' := by
  have hr := Lib.hid (wroot_none log h)
  by_cases h0 : log < 0
  · clear h
    go_enter Try.func6, Try.ntmps6
    go_wp2_with fail
    refine call_then (wawake_any _) ?_
    intro w2 hb
    go_wp2_with fail
    refine call_then (hr.out _) ?_
    intro w3 hw3
    replace hb := below_next hb hb.size hw3
    clear hw3
    go_wp2
    go_ret
    exact ⟨rfl, hb.alloc hb.size _⟩
  · have h1 : 66 < log := by omega
    clear h
    go_enter Try.func6, Try.ntmps6
    go_wp2_with fail
    refine call_then (wawake_any _) ?_
    intro w2 hb
    go_wp2_with fail
    refine call_then (hr.out _) ?_
    intro w3 hw3
    replace hb := below_next hb hb.size hw3
    clear hw3
    go_wp2
    go_ret
    exact ⟨rfl, hb.alloc hb.size _⟩
theorem wideRoots_zero (w : World) :
    Calls Try.prog 6 #[.int .i64 0] w fun e w' => e = .returned (.bool true) ∧ Below w.heap.size w w' := by
  have hr := wroot_some 0 (by omega) (by omega)
  rw [show (340282366920938462946865773367900766208 / 2 ^ (0 : Int).toNat : Int).toNat = 340282366920938462946865773367900766208 from rfl, wpow_whole, show lo 1 = 1 from rfl, show hi 1 = 0 from rfl] at hr
  replace hr := Lib.hid hr
  go_enter Try.func6, Try.ntmps6
  go_wp2_with fail
  refine call_then (wawake_any _) ?_
  intro w2 hb
  go_wp2_with fail
  refine call_then (hr.out _) ?_
  intro w3 hw3
  replace hb := below_next hb hb.size hw3
  clear hw3
  go_wp2
  go_ret
  exact ⟨rfl, hb.alloc hb.size _⟩

set_option maxHeartbeats 2000000 in
theorem wideRoots_some (L : Nat) (h0 : 1 ≤ L) (h1 : L ≤ 66) (w : World) :
    Calls Try.prog 6 #[.int .i64 L] w fun e w' => e = .returned (.bool true) ∧ Below w.heap.size w w' := by
  have hr := wroot_some L (by omega) (by omega)
  rw [Int.toNat_natCast] at hr
  have hx := wexp_halves ⟨L, by omega⟩ h0
  dsimp only at hx
  replace hr := Lib.hid hr
  replace hx := Lib.hid hx
  have hh := Lib.hid wpow_half
  have hneg := wneg_any 1 (by omega) (by omega)
  rw [show lo 1 = 1 from rfl, show hi 1 = 0 from rfl, show lo (neg 2 1) = 0 from by decide, show hi (neg 2 1) = 18446744073709551588 from by decide] at hneg
  replace hneg := Lib.hid hneg
  have hc : ((L : Int) == 0) = false := by simp; omega
  have hpos : (1 : Int) ≤ L := by omega
  generalize hn : (340282366920938462946865773367900766208 / 2 ^ L : Int).toNat = n at *
  go_enter Try.func6, Try.ntmps6
  go_wp2_with fail
  refine call_then (wawake_any _) ?_
  intro w2 hb
  go_wp2_with fail
  refine call_then (hr.out _) ?_
  intro w3 hw3
  replace hb := below_next hb hb.size hw3
  clear hw3
  go_wp2_with fail
  refine name_wp (fun w4 => Below w.heap.size w w4 ∧ w4.heap[w3.heap.size + 1]? = some (.cells #[.int .u64 (lo (pow 2 7 n)), .int .u64 (hi (pow 2 7 n))] 24 (0, 0)))
    ⟨(hb.alloc hb.size _).alloc (by simp; have := hb.size; omega) _, alloc_at (by simp)⟩ ?_
  have hs := hb.size
  have hbig : w.heap.size ≤ w3.heap.size + 1 := by omega
  clear hb hs
  generalize w3.heap.size + 1 = p at *
  rintro w4 ⟨hb4, k4⟩
  go_loopw [38] (fun j wr => ∃ k : Nat, k ≤ L - 1 ∧ j = .int .i64 k ∧ Below w.heap.size w wr ∧ wr.heap[p]? = some (.cells #[.int .u64 (lo (pow 2 7 (n * 2 ^ k))), .int .u64 (hi (pow 2 7 (n * 2 ^ k)))] 24 (0, 0))) (fun j _ => L - (intOf j).toNat)
  case atStart => exact ⟨0, Nat.zero_le _, rfl, hb4, by rw [Nat.pow_zero, Nat.mul_one]; exact k4⟩
  case round =>
    obtain ⟨k, hk, rfl, hb, k0⟩ := hrel
    clear hb4 k4
    have hq := pow_bound 2 7 (n * 2 ^ k)
    rw [M2] at hq
    by_cases hlt : (k : Int) < (L : Int) - 1
    · have hs := Lib.hid (wsquare_one n k)
      obtain ⟨c0, d0, f0, g0⟩ := blk2 k0
      go_wp2_with fail
      clear c0 d0 f0 g0
      refine call_then (wmul_any _ _ hq.1 (by omega) hq.1 (by omega) _) ?_
      intro w5 hw5
      replace hb := below_next hb hb.size hw5
      replace k0 := keeps hw5 k0
      clear hw5
      obtain ⟨c0, d0, f0, g0⟩ := blk2 k0
      go_wp2
      clear c0 d0 f0 g0
      go_roundw
      case rel => exact ⟨k + 1, by omega, by go_num, below_store2 hb hbig, by rw [← hs.out]; exact store2 k0⟩
      case measure => simp [intOf]; omega
    · obtain rfl : k = L - 1 := by omega
      have hv : pow 2 7 (n * 2 ^ (L - 1)) = 340282366920938462946865773367900766208 := by rw [hx.out]; exact hh.out
      rw [hv, show lo 340282366920938462946865773367900766208 = 0 from by decide, show hi 340282366920938462946865773367900766208 = 18446744073709551588 from by decide] at k0
      clear hv hq
      have hL : (0 : Int) ≤ (L : Int) := by omega
      go_wp2
      refine wp_region_flow0 (by kernel_rfl) (by kernel_rfl) ?_
      intro ι _ φ hφ
      obtain ⟨c0, d0⟩ := hφ.two k0
      repeat (go_big_quiet_step ((first
        | (go_at_call 16; exact flow_call hφ (hneg.out _)))))
      refine wpQuiet_nil ?_
      intro w6 hw6
      clear c0 d0 hφ
      go_wp2
      go_ret
      exact ⟨rfl, below_next hb hb.size hw6⟩

theorem wideRoots_walk (log : Int) (wl : (Lit.int .i64 log).wf = true) (w : World) :
    Calls Try.prog 6 #[.int .i64 log] w fun e w' => e = .returned (.bool true) ∧ Below w.heap.size w w' := by
  by_cases h : log < 0 ∨ 66 < log
  · exact wideRoots_none log h w
  · obtain ⟨L, rfl⟩ := Int.eq_ofNat_of_zero_le (by omega : 0 ≤ log)
    by_cases h0 : L = 0
    · subst h0; exact wideRoots_zero w
    · exact wideRoots_some L (by omega) (by omega) w

theorem own_wideRoots : ownKnob Try.prog.godebug = none := by kernel_rfl
set_option maxRecDepth 100000 in
theorem lifted_wideRoots (os : Os) (started : os.Started) (H : Type) (enc : TypeId × Value → H) :
    ReturnsInHanded {} Try.checked os 6 .any (Rows.wideRootsSpec.pre6 enc Try.prog Try.f6 Rows.wideRootsRow.domain false) (Rows.wideRootsSpec.post enc Try.prog Try.f6 false true false false) := by
  refine returnsInHanded_of_change (C := Try.checked) own_wideRoots started (by kernel_rfl) Try.func6
    (ChangeSpec.witness6 (enc := enc) (C := Try.checked) false ⟨#[], #[.int .i64 0], []⟩ 8 (by kernel_rfl) (by kernel_rfl) (by kernel_rfl) (by kernel_rfl)) ?_
  intro W base args ds gs before hval0 hW hcnd _
  have hval : ∀ (j : Nat) t v, Try.f6.params[j]? = some t → args[j]? = some v → Value.okWide Try.prog W .any base t v := hval0
  have hW' := hW
  obtain ⟨p, q, hA0, hV, rfl, hfz, hnd⟩ := hW
  have hA : DataW.TrodAll enc Try.prog W 0 (fun _ => true) true Try.f6.params.toList args.toList ds p := hA0
  rw [Try.params6] at hA hval
  obtain ⟨v0, vs0, d0, ds0, p0, q0, hargs, rfl, rfl, h0, r0⟩ := trodAll_cons hA
  obtain ⟨rfl, rfl, rfl⟩ := trodAll_nil r0
  obtain rfl : args = #[v0] := by cases args; simp_all
  obtain ⟨rfl, rfl⟩ := trodVars_none hV
  obtain ⟨a0, rfl, rfl, rfl, w0⟩ := open_int Try.underlying3 (hval 0 3 v0 rfl rfl) h0
  clear hA0 hval0
  simp only [List.append_nil] at hW'
  refine (wideRoots_walk a0 w0 W).mono fun e W' ⟨he, hb⟩ => ?_
  subst he
  exact ⟨_, rfl, post_of_below (pa := []) (pv := []) hW' (fun _ _ _ => (trodAll_cons_mk (shut_bool Try.underlying4 _) trodAll_mk0)) (fun sp _ => (trodAll_cons_mk (shut_int Try.underlying3 w0) trodAll_mk0)) (fun _ _ => rfl) rfl
    hb (ok_one (by kernel_rfl) rfl (okWide_bool_mk Try.underlying4 _))⟩
theorem over_wideRoots : Rows.wideRootsRow.holds Try.pinned (OpenSpec.ofChange Rows.wideRootsSpec) :=
  OpenClaim.holds_of_wide 6 Try.f6 rfl rfl rfl rfl rfl rfl rfl ⟨rfl, rfl, rfl, rfl, rfl⟩ rfl rfl rfl rfl rfl (by kernel_rfl) Try.func6 (by kernel_rfl)
    (of_decide_eq_true (by kernel_rfl)) (by unfold Func.isWrapper; first | (rw [if_pos (by decide +kernel)]; kernel_rfl) | (rw [if_neg (by decide +kernel)]; exact ⟨rfl, rfl⟩))
    (fun os started H enc _ => lifted_wideRoots os started H enc)
theorem wideRoots_proved : Rows.WideRootsSaid := over_wideRoots
#print axioms wideRoots_proved
end Go.Proofs.Ytklhefbldjhkpaa
