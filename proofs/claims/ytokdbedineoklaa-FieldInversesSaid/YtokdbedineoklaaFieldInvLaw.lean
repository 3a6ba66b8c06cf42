/-
  (the law) Any elements: by which each is 1; one that is 0 among them.
-/
import Derived.Test.YtokdbedineoklaaFieldInv
import Derived.Test.YtokdbedineoklaaSeg
namespace Go.Proofs.Ytokdbedineoklaa
open Go.ChangeShapes Go.WideShapes Go.ChangeAt Go.RowKit F Flow
set_option linter.unusedVariables false
attribute [local go_sem] eql_elem

theorem prods_of_zero {f : Int} {xs : List Int} {i : Nat} (hi : redu f (xs.getD i 0) = 0) : ∀ {k : Nat}, i < k → k ≤ xs.length → redu f (prods f xs k) = 0
  | 0, h, _ => absurd h (Nat.not_lt_zero _)
  | k + 1, h, hk => by
    rw [prods_succ (by omega)]
    by_cases e : i = k
    · subst e; rw [mul_comm', mul_zero_of hi]; exact redu_zero f
    · rw [mul_zero_of (prods_of_zero hi (k := k) (by omega) (by omega))]; exact redu_zero f
theorem fieldInverses_big (n : Int) (A : Option Addr) (N c : Nat) (h : 30 < N) (hm : N ≤ maxLen) (w : World) :
    Calls Try.prog 8 #[.int .u8 n, .slice A N c] w fun e w' => e = .returned (.bool true) ∧ Below w.heap.size w w' := by
  unfold maxLen at hm
  go_enter Try.func8, Try.ntmps8
  go_wp2_with fail
  refine call_then (fawake_any _) ?_
  intro w1 hb
  go_wp2
  go_ret
  exact ⟨rfl, hb⟩
set_option maxRecDepth 100000 in
set_option maxHeartbeats 4000000 in
theorem fieldInverses_zero (n f : Int) (A : Option Addr) (xs : List Int) (N c : Nat) (h1 : N ≤ 30) (hNx : xs.length = N) (hxs : ElemsOK xs) (hz : ∃ i, i < N ∧ redu f (xs.getD i 0) = 0)
    (hf : ∀ w, Calls Try.prog 10 #[.int .u8 n] w fun e w' => e = .returned (.int .u8 f) ∧ Below w.heap.size w w') (f0 : 0 ≤ f ∧ f ≤ 2)
    (hval : ∀ w, Calls Try.prog 29 #[.int .u8 f] w fun e w' => e = .returned (.bool true) ∧ Below w.heap.size w w')
    (hone : ∀ w, Calls Try.prog 24 #[.int .u8 f] w fun e w' => e = .returned (.agg #[.int .u64 1, .int .u64 0]) ∧ Below w.heap.size w w')
    (hmul : OpBy 20 f (mul f)) (hinv : InvBy f) (w : World) (hA : ElemsAt w A xs) :
    Calls Try.prog 8 #[.int .u8 n, .slice A N c] w fun e w' => e = .returned (.bool true) ∧ Below w.heap.size w w' := by
  have hz0 : redu f (prods f xs N) = 0 := by
    obtain ⟨i, hi, hr⟩ := hz
    exact prods_of_zero hr hi (by omega)
  have hv1 := Lib.hid (fun w hA => finvvec_zero f xs A N c hxs hNx (by omega) hz0 hval hone hmul hinv w hA)
  replace hf := Lib.hid hf
  replace hNx := Lib.hid hNx
  have hw8 : IntKind.i64.wrap f = f := IntWalk.i64_in _ (by omega)
  clear hval hone hmul hinv hz0
  replace hz := Lib.hid hz
  go_enter Try.func8, Try.ntmps8
  go_wp2_with fail
  refine call_then (fawake_any _) ?_
  intro w1 hb
  go_wp2_with fail
  refine call_then (hf.out _) ?_
  intro w9 hw
  replace hb := below_next hb hb.size hw
  clear hw
  go_wp2_with fail
  refine call_then (hf.out _) ?_
  intro w9 hw
  replace hb := below_next hb hb.size hw
  clear hw
  go_wp2_with fail
  refine call_then (hv1.out _ (hA.up hb)) ?_
  intro w3 hw
  replace hb := below_next hb hb.size hw
  clear hw hv1
  go_wp2
  go_loopw [35] (fun i wr => ∃ k : Nat, k ≤ N ∧ i = .int .i64 k ∧ Below w.heap.size w wr ∧ Hid (∀ i, i < k → redu f (xs.getD i 0) ≠ 0)) (fun i _ => N - (intOf i).toNat)
  case atStart => exact ⟨0, Nat.zero_le _, rfl, hb, fun i hi => absurd hi (Nat.not_lt_zero _)⟩
  case round =>
    obtain ⟨k, hk, rfl, hb, hnz⟩ := hrel
    by_cases hlt : k < N
    · by_cases hk0 : redu f (xs.getD k 0) = 0
      · obtain ⟨b1, o1, rfl, ha⟩ := hA.came (k := k) (by rw [hNx.out]; exact hlt)
        have hxk := hxs.at_ (k := k) (by rw [hNx.out]; exact hlt)
        have c0 := (ha wr hb).1
        have c1 := (ha wr hb).2
        generalize xs.getD k 0 = t at *
        replace ha := Lib.hid ha
        have i0 : (0 : Int) ≤ (k : Int) := by omega
        have i1 : (k : Int) < (N : Int) := by omega
        go_wp2_with fail
        refine name_calls (fun w2 => Below w.heap.size w w2) (hb.alloc hb.size _) ?_
        clear c0 c1 hb
        rintro w2 hb
        refine call_then (of_any f t hxk.1 hxk.2 _) ?_
        intro w3 hw
        replace hb := below_next hb hb.size hw
        clear hw
        rw [hk0]
        clear hk0
        go_wp2
        go_ret
        exact ⟨rfl, hb⟩
      · have hnx : Hid (∀ i, i < k + 1 → redu f (xs.getD i 0) ≠ 0) := fun i hi => by
          by_cases e : i = k
          · subst e; exact hk0
          · exact hnz.out i (by omega)
        have hdec := zero_iff (redu_nonneg f (xs.getD k 0))
        rw [show decide (redu f (xs.getD k 0) = 0) = false by simpa using hk0] at hdec
        clear hk0 hnz
        obtain ⟨b1, o1, rfl, ha⟩ := hA.came (k := k) (by rw [hNx.out]; exact hlt)
        have hxk := hxs.at_ (k := k) (by rw [hNx.out]; exact hlt)
        have c0 := (ha wr hb).1
        have c1 := (ha wr hb).2
        generalize xs.getD k 0 = t at *
        replace ha := Lib.hid ha
        have i0 : (0 : Int) ≤ (k : Int) := by omega
        have i1 : (k : Int) < (N : Int) := by omega
        go_wp2_with fail
        refine name_calls (fun w2 => Below w.heap.size w w2) (hb.alloc hb.size _) ?_
        clear c0 c1 hb
        rintro w2 hb
        refine call_then (of_any f t hxk.1 hxk.2 _) ?_
        intro w3 hw
        replace hb := below_next hb hb.size hw
        clear hw
        go_wp2
        go_roundw
        case rel => exact ⟨k + 1, hlt, by go_num, hb, hnx⟩
        case measure => simp [intOf]; omega
    · obtain ⟨i, hi, hr⟩ := hz.out
      exact absurd hr (hnz.out i (by omega))

theorem rinf_one (a : Int) (w : World) :
    Calls Try.prog 26 #[.int .i64 1, .agg #[.int .u64 (lo a), .int .u64 (hi a)]] w fun e w' => e = .returned (.bool (decide (a < M 1))) ∧ Below w.heap.size w w' := by
  go_enter Try.func26, Try.ntmps26
  go_wp2_with fail
  refine name_wp (fun w1 => Below w.heap.size w w1 ∧ w1.heap[w.heap.size]? = some (.cells #[.int .u64 (lo a), .int .u64 (hi a)] 24 (0, 0))) ⟨(Below.refl _ _).alloc (Nat.le_refl _) _, alloc_at rfl⟩ ?_
  rintro w1 ⟨hb, k0⟩
  refine wp_region_flow0 (by kernel_rfl) (by kernel_rfl) ?_
  intro ι _ φ hφ
  obtain ⟨c0, d0⟩ := hφ.two k0
  repeat (go_big_quiet_step ((first
    | (go_at_call 48; exact flow_call hφ (p_any _ _))
    | (go_at_call 47; exact flow_call hφ (less_any _ _ _)))))
  refine wpQuiet_nil ?_
  intro w2 hw2
  clear c0 d0 hφ
  go_wp2
  go_ret
  exact ⟨rfl, below_next hb hb.size hw2⟩
theorem rinf_two (a : Int) (w : World) :
    Calls Try.prog 26 #[.int .i64 2, .agg #[.int .u64 (lo a), .int .u64 (hi a)]] w fun e w' => e = .returned (.bool (decide (a < M 2))) ∧ Below w.heap.size w w' := by
  go_enter Try.func26, Try.ntmps26
  go_wp2_with fail
  refine name_wp (fun w1 => Below w.heap.size w w1 ∧ w1.heap[w.heap.size]? = some (.cells #[.int .u64 (lo a), .int .u64 (hi a)] 24 (0, 0))) ⟨(Below.refl _ _).alloc (Nat.le_refl _) _, alloc_at rfl⟩ ?_
  rintro w1 ⟨hb, k0⟩
  refine wp_region_flow0 (by kernel_rfl) (by kernel_rfl) ?_
  intro ι _ φ hφ
  obtain ⟨c0, d0⟩ := hφ.two k0
  repeat (go_big_quiet_step ((first
    | (go_at_call 48; exact flow_call hφ (p_any _ _))
    | (go_at_call 47; exact flow_call hφ (less_any _ _ _)))))
  refine wpQuiet_nil ?_
  intro w2 hw2
  clear c0 d0 hφ
  go_wp2
  go_ret
  exact ⟨rfl, below_next hb hb.size hw2⟩
set_option maxRecDepth 100000 in
set_option maxHeartbeats 8000000 in
theorem fieldInverses_units (n f : Int) (A : Option Addr) (xs : List Int) (N c : Nat) (h1 : N ≤ 30) (hNx : xs.length = N) (hxs : ElemsOK xs) (hz : ∀ i, i < N → redu f (xs.getD i 0) ≠ 0) (n0 : 0 ≤ n) (n1 : n ≤ 255)
    (hf : ∀ w, Calls Try.prog 10 #[.int .u8 n] w fun e w' => e = .returned (.int .u8 f) ∧ Below w.heap.size w w') (f0 : 0 ≤ f ∧ f ≤ 2)
    (hval : ∀ w, Calls Try.prog 29 #[.int .u8 f] w fun e w' => e = .returned (.bool true) ∧ Below w.heap.size w w')
    (hone : ∀ w, Calls Try.prog 24 #[.int .u8 f] w fun e w' => e = .returned (.agg #[.int .u64 1, .int .u64 0]) ∧ Below w.heap.size w w')
    (hin : ∀ a w, Calls Try.prog 26 #[.int .i64 f, .agg #[.int .u64 (lo a), .int .u64 (hi a)]] w fun e w' => e = .returned (.bool (decide (a < M f))) ∧ Below w.heap.size w w')
    (hmul : OpBy 20 f (mul f)) (hinv : InvBy f) (w : World) (hA : ElemsAt w A xs) :
    Calls Try.prog 8 #[.int .u8 n, .slice A N c] w fun e w' => e = .returned (.bool true) ∧ Below w.heap.size w w' := by
  have hu : redu f (prods f xs N) ≠ 0 := by
    obtain ⟨y, hy⟩ := prods_unit (f := f) (xs := xs) (k := N) (by omega) (fun i hi _ => by
      have hx := hxs.at_ (k := i) (by omega)
      obtain ⟨v, _, hv, _⟩ := (hinv _ hx.1 hx.2).2 (hz i hi)
      exact ⟨v, hv⟩)
    exact redu_of_unit hy
  have hv1 := Lib.hid (fun w hA => finvvec_units f xs A N c hxs hNx (by omega) hu hval hone hmul hinv w hA)
  have hv2 := Lib.hid (fun A c => finvvec_long f A 4097 c (by omega) (by unfold maxLen; omega) hval)
  have hv3 := Lib.hid (finvvec_none (3 + n % 250) (.slice A N c) ⟨by simp; omega, by simp; omega⟩)
  obtain ⟨Z, hmk⟩ : ∃ Z : Array Value, ∀ w : World, (Instr.makeSlice 43 (.int .i64 4097) (.int .i64 4097)).run Try.prog w = .ok (.slice (some ⟨w.heap.size, 0, none⟩) 4097 4097) (w.alloc (.cells Z 24)) := ⟨_, make_elems 4097 (by omega)⟩
  replace hf := Lib.hid hf
  replace hNx := Lib.hid hNx
  have hw8 : IntKind.i64.wrap f = f := IntWalk.i64_in _ (by omega)
  clear hval hone hmul hinv hu
  replace hz := Lib.hid hz
  replace hin := Lib.hid hin
  go_enter Try.func8, Try.ntmps8
  go_wp2_with fail
  refine call_then (fawake_any _) ?_
  intro w1 hb
  go_wp2_with fail
  refine call_then (hf.out _) ?_
  intro w9 hw
  replace hb := below_next hb hb.size hw
  clear hw
  go_wp2_with fail
  refine call_then (hf.out _) ?_
  intro w9 hw
  replace hb := below_next hb hb.size hw
  clear hw
  go_wp2_with fail
  refine (hv1.out _ (hA.up hb)).mono ?_
  rintro e w3 ⟨g, rs, rfl, hw, hr, hI⟩
  replace hb := below_next hb hb.size hw
  replace hr := Lib.hid hr
  replace hI := Lib.hid hI
  clear hw hv1
  go_wp2
  go_loopw [35] (fun i wr => ∃ k : Nat, k ≤ N ∧ i = .int .i64 k ∧ Below w.heap.size w wr ∧ Hid (Row wr g rs)) (fun i _ => N - (intOf i).toNat)
  case atStart => exact ⟨0, Nat.zero_le _, rfl, hb, hr⟩
  case round =>
    obtain ⟨k, hk, rfl, hb, hr⟩ := hrel
    by_cases hlt : k < N
    · have hk0 := hz.out k hlt
      have hdec := zero_iff (redu_nonneg f (xs.getD k 0))
      rw [show decide (redu f (xs.getD k 0) = 0) = false by simpa using hk0] at hdec
      clear hk0
      obtain ⟨b1, o1, rfl, ha⟩ := hA.came (k := k) (by rw [hNx.out]; exact hlt)
      have hxk := hxs.at_ (k := k) (by rw [hNx.out]; exact hlt)
      have c0 := (ha wr hb).1
      have c1 := (ha wr hb).2
      generalize xs.getD k 0 = t at *
      replace ha := Lib.hid ha
      have i0 : (0 : Int) ≤ (k : Int) := by omega
      have i1 : (k : Int) < (N : Int) := by omega
      go_wp2_with fail
      refine name_calls (fun w2 => Below w.heap.size w w2 ∧ Hid (Row w2 g rs)) ⟨hb.alloc hb.size _, hr.out.alloc _⟩ ?_
      clear c0 c1 hb hr
      rintro w2 ⟨hb, hr⟩
      refine call_then (of_any f t hxk.1 hxk.2 _) ?_
      intro w3 hw
      replace hb := below_next hb hb.size hw
      replace hr := Lib.hid (hr.out.up hw)
      clear hw
      go_wp2
      go_roundw
      case rel => exact ⟨k + 1, hlt, by go_num, hb, hr⟩
      case measure => simp [intOf]; omega
    · have hkN : N = k := by omega
      subst hkN
      clear hz
      go_wp2
      go_loopw [63] (fun i wr => ∃ k : Nat, k ≤ N ∧ i = .int .i64 k ∧ Below w.heap.size w wr ∧ Hid (Row wr g rs)) (fun i _ => N - (intOf i).toNat)
      case atStart => exact ⟨0, Nat.zero_le _, rfl, hb, hr⟩
      case round =>
        obtain ⟨k, hk, rfl, hb, hr⟩ := hrel
        by_cases hlt : k < N
        · obtain ⟨b1, o1, rfl, ha⟩ := hA.came (k := k) (by rw [hNx.out]; exact hlt)
          have hxk := hxs.at_ (k := k) (by rw [hNx.out]; exact hlt)
          have c0 := (ha wr hb).1
          have c1 := (ha wr hb).2
          obtain ⟨hrb, hm⟩ := hI.out.2 k (by rw [hNx.out]; exact hlt)
          have d0 := fun v (hv : Below wr.heap.size wr v) => (hr.out.up hv).lo (k := k) (by rw [hI.out.1, hNx.out]; exact hlt)
          have d1 := fun v (hv : Below wr.heap.size wr v) => (hr.out.up hv).hi (k := k) (by rw [hI.out.1, hNx.out]; exact hlt)
          have hM := M_lt f
          have hmc := mul_any f (xs.getD k 0) (rs.getD k 0) hxk.1 hxk.2 hrb.1 (by omega)
          rw [hm] at hmc
          have hic := hin.out (rs.getD k 0)
          rw [show decide (rs.getD k 0 < M f) = true by simpa using hrb.2] at hic
          generalize xs.getD k 0 = t at *
          generalize rs.getD k 0 = r at *
          clear hm hrb
          replace ha := Lib.hid ha
          replace d0 := Lib.hid d0
          replace d1 := Lib.hid d1
          replace hmc := Lib.hid hmc
          replace hic := Lib.hid hic
          have i0 : (0 : Int) ≤ (k : Int) := by omega
          have i1 : (k : Int) < (N : Int) := by omega
          go_wp2
          refine name_wp (fun w2 => Below w.heap.size w w2 ∧ Hid (Row w2 g rs) ∧ Below wr.heap.size wr w2 ∧ Holds w2 wr.heap.size t) ⟨hb.alloc hb.size _, hr.out.alloc _, (Below.refl _ _).alloc (Nat.le_refl _) _, alloc_at rfl⟩ ?_
          clear hb hr c0 c1
          rintro w2 ⟨hb, hr, hbr, ht⟩
          refine wp_region_flow0 (by kernel_rfl) (by kernel_rfl) ?_
          intro ι _ φ hφ
          have e0 := fun i => d0.out _ (below_chain hbr (hφ.old i))
          have e1 := fun i => d1.out _ (below_chain hbr (hφ.old i))
          obtain ⟨e2, e3⟩ := hφ.two ht
          repeat (go_big_quiet_step ((first
            | (go_at_call 26; exact flow_call hφ (hic.out _))
            | (go_at_call 13; exact flow_call hφ (hmc.out _)))))
          refine wpQuiet_nil ?_
          intro w4 hw
          clear e0 e1 e2 e3 hφ d0 d1
          replace hb := below_next hb hb.size hw
          replace hr := Lib.hid (hr.out.up hw)
          clear hw
          go_wp2
          go_roundw
          case rel => exact ⟨k + 1, hlt, by go_num, hb, hr⟩
          case measure => simp [intOf]; omega
        · have hkN : N = k := by omega
          subst hkN
          clear hA
          go_wp2_with fail
          refine name_calls (fun w2 => Below w.heap.size w w2) (hb.alloc hb.size _) ?_
          clear hb hmk
          intro w5 hb
          refine call_then (hv2.out _ _ _) ?_
          intro w9 hw
          replace hb := below_next hb hb.size hw
          clear hw
          go_wp2_with fail
          refine call_then (hv3.out _) ?_
          intro w6 hw
          replace hb := below_next hb hb.size hw
          clear hw
          go_wp2
          go_ret
          exact ⟨rfl, hb⟩
end Go.Proofs.Ytokdbedineoklaa
