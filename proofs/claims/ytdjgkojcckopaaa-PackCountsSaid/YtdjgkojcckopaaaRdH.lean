/-
  PackCounts: its walk.
-/
import Derived.Test.YtdjgkojcckopaaaRdG
namespace Go.Proofs.Ytdjgkojcckopaaa
open Go.RowKit Flow Go.WideShapes Go.ChangeShapes
set_option linter.unusedVariables false
set_option linter.unusedSimpArgs false

set_option maxHeartbeats 4000000 in
theorem packCounts_walk (n most s : Int) (n0 : 0 ≤ n) (n1 : n < 18446744073709551616) (m0 : 0 ≤ most) (m1 : most < 18446744073709551616) (s0 : 0 ≤ s) (s1 : s ≤ 255) (w : World) :
    Calls Try.prog 5 #[.int .u64 n, .int .u64 most, .int .u8 s] w fun e w' => e = .returned (.bool true) ∧ Below w.heap.size w w' := by
  obtain ⟨K, hK⟩ : ∃ K : Nat, (K : Int) = 1 + s % 8 := ⟨(1 + s % 8).toNat, by omega⟩
  have hK0 : 1 ≤ K := by omega
  have hK1 : K ≤ 8 := by omega
  have e8 : s.tmod 8 = s % 8 := Int.tmod_eq_emod_of_nonneg s0
  have r0 : 0 ≤ s % 8 := by omega
  have r1 : s % 8 < 8 := by omega
  replace n1 := Lib.hid n1
  replace m1 := Lib.hid m1
  go_enter Try.func5, Try.ntmps5
  go_wp2_with fail
  refine call_then (awake12 _) ?_
  intro w1 hb1
  have kmb := keeps hb1 (alloc_at (w := w) (o := .cells #[.int .u64 most] 27 (0, 0)) rfl)
  have hb := below_next ((Below.refl w.heap.size w).alloc (Nat.le_refl _) (.cells #[.int .u64 most] 27 (0, 0))) (by simp) hb1
  go_upto_region 5 with (fail)
  rw [← hK]
  replace hK := Lib.hid hK
  clear e8 r0 r1
  have hbW := (hb.alloc (o := .cells #[.int .i64 (K : Int)] 3 (0, 0)) hb.size).alloc (o := .cells #[.slice none 0 0] 26 (0, 0)) (by simp; have := hb.size; omega)
  have hW : Wr ((w1.alloc (.cells #[.int .i64 (K : Int)] 3 (0, 0))).alloc (.cells #[.slice none 0 0] 26 (0, 0))) (w1.heap.size + 1) [] := ⟨_, alloc_at (by simp), World.ownsRow_nil _ _ _ _⟩
  have kkb : ((w1.alloc (.cells #[.int .i64 (K : Int)] 3 (0, 0))).alloc (.cells #[.slice none 0 0] 26 (0, 0))).heap[w1.heap.size]? = some (.cells #[.int .i64 (K : Int)] 3 (0, 0)) := alloc_keeps (alloc_at rfl)
  replace kmb : ((w1.alloc (.cells #[.int .i64 (K : Int)] 3 (0, 0))).alloc (.cells #[.slice none 0 0] 26 (0, 0))).heap[w.heap.size]? = some (.cells #[.int .u64 most] 27 (0, 0)) := alloc_keeps (alloc_keeps kmb)
  have hmk : w.heap.size < w1.heap.size := by have := hb1.size; simp at this; omega
  clear hb1 hb
  generalize ((w1.alloc (.cells #[.int .i64 (K : Int)] 3 (0, 0))).alloc (.cells #[.slice none 0 0] 26 (0, 0))) = w2 at *
  generalize w1.heap.size = kb at *
  clear w1
  have hU := Lib.hid (uint_any (kb + 1) [] n ⟨n0, n1.out⟩ K hK1 (by simp; omega) w2 hW)
  obtain ⟨c0, f0⟩ := one_at kkb
  have k0 : (0 : Int) ≤ (K : Int) := by omega
  have k1 : (K : Int) ≤ 8 := by omega
  go_wp2_with fail
  refine hU.out.mono ?_
  rintro e w3 ⟨rfl, hW3, hS3⟩
  rw [List.nil_append] at hW3
  have kkb3 := hS3.heap (hW.safe_old (by omega)) kkb
  have kmb3 := hS3.heap (hW.safe_old (by omega)) kmb
  have hb3 := hbW.trans ((Step.below hS3 hW).mono (by omega))
  clear hU hS3 hbW hW kkb kmb c0 f0
  obtain ⟨c0, f0⟩ := one_at kkb3
  have hlo : F.loVal (ubytes n K) = n % 256 ^ K := by rw [ubytes_lo]; exact loVal_mod K n n0
  have hy : ∀ y, y ∈ ubytes n K → 0 ≤ y ∧ y < 256 := fun y h => F.loBytes_ok K n y (by rw [← ubytes_lo]; exact h)
  have hlen := ubytes_len n K
  have hmf : ∀ (fn : Fn) (first cap : Array Value) (w : World), (Instr.makeFunc fn first cap).run Try.prog w = .ok (.func fn first cap) w := fun _ _ _ _ => rfl
  by_cases h8 : K < 8
  · have b0 : decide ((K : Int) < 8) = true := by rw [decide_eq_true_eq]; omega
    obtain ⟨D, hD, hD1, hD0⟩ : ∃ D : Int, (256 : Int) ^ K = D ∧ IntKind.u64.wrap (2 ^ (8 * K)) = D ∧ 0 < D := by
      refine ⟨_, rfl, ?_, Int.pow_pos (by decide)⟩
      have e1 : (256 : Int) ^ K = ((2 ^ (8 * K) : Nat) : Int) := by rw [Int.natCast_pow, Int.pow_mul]; rfl
      have hle : (2 : Nat) ^ (8 * K) ≤ 2 ^ 56 := Nat.pow_le_pow_right (by decide) (by omega)
      have e2 : ((2 : Int) ^ (8 * K)) = ((2 ^ (8 * K) : Nat) : Int) := by simp
      rw [e1, e2, IntKind.wrap_u64]
      omega
    have hDn : D ≠ 0 := by omega
    rw [hD] at hlo
    replace hlo := Lib.hid hlo
    replace hD := Lib.hid hD
    replace hy := Lib.hid hy
    replace hlen := Lib.hid hlen
    go_upto_region 8 with (fail)
    clear hD1 hDn b0 c0 f0
    generalize n % D = N at *
    have N0 : 0 ≤ N ∧ N < 18446744073709551616 := by
      have h := F.loVal_bound _ hy.out
      rw [hlo.out, hlen.out] at h
      have hle : (256 : Int) ^ K ≤ 18446744073709551616 := by
        have h2 : (256 : Nat) ^ K ≤ 256 ^ 8 := Nat.pow_le_pow_right (by decide) hK1
        have h3 : (256 : Int) ^ K = ((256 ^ K : Nat) : Int) := by simp
        rw [h3]; omega
      omega
    have N2 : IntKind.u64.wrap (wrap64 N) = N := by
      simp only [IntKind.wrap_u64, wrap64]
      omega
    replace N0 := Lib.hid N0
    have lmb := lt_of_get kmb3
    have lkb := lt_of_get kkb3
    have hbA := (Below.refl w3.heap.size w3).alloc (Nat.le_refl _) (.cells #[.int .i64 0] 3 (0, 0))
    have kg4 : (w3.alloc (.cells #[.int .i64 0] 3 (0, 0))).heap[w3.heap.size]? = some (.cells #[.int .i64 0] 3 (0, 0)) := alloc_at rfl
    have hB := bytes_txt (kb + 1) (ubytes n K) (by rw [hlen.out]; omega) _ (hW3.up hbA)
    replace hB := Lib.hid hB
    have hb4 := below_next hb3 hb3.size hbA
    go_wp2_with fail
    refine hB.out.mono ?_
    rintro e w5 ⟨v, rfl, hb5, hf5⟩
    have kkb5 := keeps hb5 (keeps hbA kkb3)
    have kmb5 := keeps hb5 (keeps hbA kmb3)
    have kg5 := keeps hb5 kg4
    have hbw5 := below_next hb4 hb4.size hb5
    obtain ⟨A, cp, rfl⟩ := hf5.slice
    rw [hlen.out] at hf5
    have hx5 := hf5.tx
    rw [hlen.out]
    have hgw : w.heap.size ≤ w3.heap.size := hb3.size
    clear hB hb5 hf5 hb4 kg4 hbA hb3 kmb3 kkb3 hW3
    generalize w3.heap.size = gb at *
    go_wp2_with fail
    have hxl : (ubytes n K).length = K := hlen.out
    have lmb5 := lt_of_get kmb5
    have lgb5 := lt_of_get kg5
    have hbs := hbw5.size
    by_cases hle : N ≤ most
    · have b1 : decide (most < N) = false := by rw [decide_eq_false_iff_not]; omega
      have hRd := read_gen 23 (fun _ _ => by simp [go_sem]) #[.pointer (some ⟨kb, 0, none⟩), .pointer (some ⟨w.heap.size, 0, none⟩), .pointer (some ⟨gb, 0, none⟩)] A K cp (CountS w w.heap.size gb most 0 (wrap64 (F.loVal (ubytes n K)))) w5
        (fun w6 hin => counts1_ok w w5 kb w.heap.size gb K most A cp (ubytes n K) hy.out hK1 hxl hbw5 kkb5 kmb5 kg5 (by omega) hgw hx5 (by rw [hlo.out]; exact hle) w6 hin)
      rw [hlo.out] at hRd
      clear hxl hx5 kkb5
      refine hRd.mono ?_
      rintro e w7 ⟨c, k, w6, ⟨rfl, rfl, hb6, km6, kg6⟩, hb7, rfl⟩
      have km7 := (hb7.block _ lmb5).trans km6
      have kg7 := (hb7.block _ lgb5).trans kg6
      have hbF := hb6.trans (hb7.mono hbs)
      rw [show ended 0 0 = 0 from rfl]
      clear hb6 hb7 km6 kg6 hRd kmb5 kg5
      obtain ⟨c1, f1⟩ := one_at km7
      obtain ⟨c2, f2⟩ := one_at kg7
      clear km7 kg7
      go_wp2
      go_ret
      exact ⟨rfl, hbF⟩
    · have b1 : decide (most < N) = true := by rw [decide_eq_true_eq]; omega
      have hRd := read_gen 23 (fun _ _ => by simp [go_sem]) #[.pointer (some ⟨kb, 0, none⟩), .pointer (some ⟨w.heap.size, 0, none⟩), .pointer (some ⟨gb, 0, none⟩)] A K cp (CountS w w.heap.size gb most 6 0) w5
        (fun w6 hin => counts1_big w w5 kb w.heap.size gb K most A cp (ubytes n K) hy.out hK1 hxl hbw5 kkb5 kmb5 kg5 hx5 (by rw [hlo.out]; omega) w6 hin)
      clear hxl hx5 kkb5
      refine hRd.mono ?_
      rintro e w7 ⟨c, k, w6, ⟨rfl, rfl, hb6, km6, kg6⟩, hb7, rfl⟩
      have km7 := (hb7.block _ lmb5).trans km6
      have kg7 := (hb7.block _ lgb5).trans kg6
      have hbF := hb6.trans (hb7.mono hbs)
      rw [show ended 6 0 = 6 from rfl]
      clear hb6 hb7 km6 kg6 hRd kmb5 kg5
      obtain ⟨c1, f1⟩ := one_at km7
      obtain ⟨c2, f2⟩ := one_at kg7
      clear km7 kg7
      go_wp2
      go_ret
      exact ⟨rfl, hbF⟩
  · have b0 : decide ((K : Int) < 8) = false := by rw [decide_eq_false_iff_not]; omega
    have e9 : n % 256 ^ K = n := by
      obtain rfl : K = 8 := by omega
      have := n1.out
      omega
    rw [e9] at hlo
    replace hlo := Lib.hid hlo
    replace hy := Lib.hid hy
    replace hlen := Lib.hid hlen
    clear e9
    go_upto_region 8 with (fail)
    clear b0 c0 f0
    have N0 : 0 ≤ n ∧ n < 18446744073709551616 := by
      have h := F.loVal_bound _ hy.out
      rw [hlo.out, hlen.out] at h
      have hle : (256 : Int) ^ K ≤ 18446744073709551616 := by
        have h2 : (256 : Nat) ^ K ≤ 256 ^ 8 := Nat.pow_le_pow_right (by decide) hK1
        have h3 : (256 : Int) ^ K = ((256 ^ K : Nat) : Int) := by simp
        rw [h3]; omega
      omega
    have N2 : IntKind.u64.wrap (wrap64 n) = n := by
      simp only [IntKind.wrap_u64, wrap64]
      omega
    replace N0 := Lib.hid N0
    have lmb := lt_of_get kmb3
    have lkb := lt_of_get kkb3
    have hbA := (Below.refl w3.heap.size w3).alloc (Nat.le_refl _) (.cells #[.int .i64 0] 3 (0, 0))
    have kg4 : (w3.alloc (.cells #[.int .i64 0] 3 (0, 0))).heap[w3.heap.size]? = some (.cells #[.int .i64 0] 3 (0, 0)) := alloc_at rfl
    have hB := bytes_txt (kb + 1) (ubytes n K) (by rw [hlen.out]; omega) _ (hW3.up hbA)
    replace hB := Lib.hid hB
    have hb4 := below_next hb3 hb3.size hbA
    go_wp2_with fail
    refine hB.out.mono ?_
    rintro e w5 ⟨v, rfl, hb5, hf5⟩
    have kkb5 := keeps hb5 (keeps hbA kkb3)
    have kmb5 := keeps hb5 (keeps hbA kmb3)
    have kg5 := keeps hb5 kg4
    have hbw5 := below_next hb4 hb4.size hb5
    obtain ⟨A, cp, rfl⟩ := hf5.slice
    rw [hlen.out] at hf5
    have hx5 := hf5.tx
    rw [hlen.out]
    have hgw : w.heap.size ≤ w3.heap.size := hb3.size
    clear hB hb5 hf5 hb4 kg4 hbA hb3 kmb3 kkb3 hW3
    generalize w3.heap.size = gb at *
    go_wp2_with fail
    have hxl : (ubytes n K).length = K := hlen.out
    have lmb5 := lt_of_get kmb5
    have lgb5 := lt_of_get kg5
    have hbs := hbw5.size
    by_cases hle : n ≤ most
    · have b1 : decide (most < n) = false := by rw [decide_eq_false_iff_not]; omega
      have hRd := read_gen 23 (fun _ _ => by simp [go_sem]) #[.pointer (some ⟨kb, 0, none⟩), .pointer (some ⟨w.heap.size, 0, none⟩), .pointer (some ⟨gb, 0, none⟩)] A K cp (CountS w w.heap.size gb most 0 (wrap64 (F.loVal (ubytes n K)))) w5
        (fun w6 hin => counts1_ok w w5 kb w.heap.size gb K most A cp (ubytes n K) hy.out hK1 hxl hbw5 kkb5 kmb5 kg5 (by omega) hgw hx5 (by rw [hlo.out]; exact hle) w6 hin)
      rw [hlo.out] at hRd
      clear hxl hx5 kkb5
      refine hRd.mono ?_
      rintro e w7 ⟨c, k, w6, ⟨rfl, rfl, hb6, km6, kg6⟩, hb7, rfl⟩
      have km7 := (hb7.block _ lmb5).trans km6
      have kg7 := (hb7.block _ lgb5).trans kg6
      have hbF := hb6.trans (hb7.mono hbs)
      rw [show ended 0 0 = 0 from rfl]
      clear hb6 hb7 km6 kg6 hRd kmb5 kg5
      obtain ⟨c1, f1⟩ := one_at km7
      obtain ⟨c2, f2⟩ := one_at kg7
      clear km7 kg7
      go_wp2
      go_ret
      exact ⟨rfl, hbF⟩
    · have b1 : decide (most < n) = true := by rw [decide_eq_true_eq]; omega
      have hRd := read_gen 23 (fun _ _ => by simp [go_sem]) #[.pointer (some ⟨kb, 0, none⟩), .pointer (some ⟨w.heap.size, 0, none⟩), .pointer (some ⟨gb, 0, none⟩)] A K cp (CountS w w.heap.size gb most 6 0) w5
        (fun w6 hin => counts1_big w w5 kb w.heap.size gb K most A cp (ubytes n K) hy.out hK1 hxl hbw5 kkb5 kmb5 kg5 hx5 (by rw [hlo.out]; omega) w6 hin)
      clear hxl hx5 kkb5
      refine hRd.mono ?_
      rintro e w7 ⟨c, k, w6, ⟨rfl, rfl, hb6, km6, kg6⟩, hb7, rfl⟩
      have km7 := (hb7.block _ lmb5).trans km6
      have kg7 := (hb7.block _ lgb5).trans kg6
      have hbF := hb6.trans (hb7.mono hbs)
      rw [show ended 6 0 = 6 from rfl]
      clear hb6 hb7 km6 kg6 hRd kmb5 kg5
      obtain ⟨c1, f1⟩ := one_at km7
      obtain ⟨c2, f2⟩ := one_at kg7
      clear km7 kg7
      go_wp2
      go_ret
      exact ⟨rfl, hbF⟩

theorem own_packCounts : ownKnob Try.prog.godebug = none := by kernel_rfl
set_option maxRecDepth 100000 in
theorem lifted_packCounts (os : Os) (started : os.Started) (H : Type) (enc : TypeId × Value → H) :
    ReturnsInHanded {} Try.checked os 5 .any (Rows.packCountsSpec.pre6 enc Try.prog Try.f5 Rows.packCountsRow.domain false) (Rows.packCountsSpec.post enc Try.prog Try.f5 false true false false) := by
  refine returnsInHanded_of_change (C := Try.checked) own_packCounts started (by kernel_rfl) Try.func5
    (ChangeSpec.witness6 (enc := enc) (C := Try.checked) false ⟨#[], #[.int .u64 0, .int .u64 0, .int .u8 0], []⟩ 8 (by kernel_rfl) (by kernel_rfl) (by kernel_rfl) (by kernel_rfl)) ?_
  intro W base args ds gs before hval0 hW hcnd _
  have hval : ∀ (j : Nat) t v, Try.f5.params[j]? = some t → args[j]? = some v → Value.okWide Try.prog W .any base t v := hval0
  have hW' := hW
  obtain ⟨p, q, hA0, hV, rfl, hfz, hnd⟩ := hW
  have hA : DataW.TrodAll enc Try.prog W 0 (fun _ => true) true Try.f5.params.toList args.toList ds p := hA0
  rw [Try.params5] at hA hval
  clear hA0 hval0
  obtain ⟨v0, vs0, d0, ds0, p0, q0, hargs, rfl, rfl, h0, r0⟩ := trodAll_cons hA
  obtain ⟨v1, vs1, d1, ds1, p1, q1, rfl, rfl, rfl, h1, r1⟩ := trodAll_cons r0
  obtain ⟨v2, vs2, d2, ds2, p2, q2, rfl, rfl, rfl, h2, r2⟩ := trodAll_cons r1
  obtain ⟨rfl, rfl, rfl⟩ := trodAll_nil r2
  obtain rfl : args = #[v0, v1, v2] := by cases args; simp_all
  obtain ⟨rfl, rfl⟩ := trodVars_none hV
  obtain ⟨a0, rfl, _, _, w0⟩ := open_int Try.underlying27 (hval 0 27 v0 rfl rfl) h0
  obtain ⟨a1, rfl, _, _, w1⟩ := open_int Try.underlying27 (hval 1 27 v1 rfl rfl) h1
  obtain ⟨a2, rfl, _, _, w2⟩ := open_int Try.underlying5 (hval 2 5 v2 rfl rfl) h2
  have hr0 : 0 ≤ a0 ∧ a0 ≤ 18446744073709551615 := by simpa [Lit.wf, IntKind.min, IntKind.max, IntKind.signed, IntKind.bits] using w0
  have hr1 : 0 ≤ a1 ∧ a1 ≤ 18446744073709551615 := by simpa [Lit.wf, IntKind.min, IntKind.max, IntKind.signed, IntKind.bits] using w1
  have hr2 : 0 ≤ a2 ∧ a2 ≤ 255 := by simpa [Lit.wf, IntKind.min, IntKind.max, IntKind.signed, IntKind.bits] using w2
  refine (packCounts_walk a0 a1 a2 hr0.1 (by omega) hr1.1 (by omega) hr2.1 hr2.2 W).mono fun e W' ⟨he, hb⟩ => ?_
  subst he
  exact ⟨_, rfl, law_true (by decide +kernel) rfl rfl Try.underlying4 hW' rfl hb⟩
theorem over_packCounts : Rows.packCountsRow.holds Try.pinned (OpenSpec.ofChange Rows.packCountsSpec) :=
  OpenClaim.holds_of_wide 5 Try.f5 rfl rfl rfl rfl rfl rfl rfl ⟨rfl, rfl, rfl, rfl, rfl⟩ rfl rfl rfl rfl rfl (by kernel_rfl) Try.func5 (by kernel_rfl)
    (of_decide_eq_true (by kernel_rfl)) (by unfold Func.isWrapper; first | (rw [if_pos (by decide +kernel)]; kernel_rfl) | (rw [if_neg (by decide +kernel)]; exact ⟨rfl, rfl⟩))
    (fun os started H enc _ => lifted_packCounts os started H enc)
theorem packCounts_proved : Rows.PackCountsSaid := over_packCounts
#print axioms packCounts_proved
end Go.Proofs.Ytdjgkojcckopaaa
