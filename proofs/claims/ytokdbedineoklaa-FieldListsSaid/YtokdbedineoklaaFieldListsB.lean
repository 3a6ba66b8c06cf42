/-
  (the law) Any two lists of elements: sums, differences, products, powers are the reference's.
-/
import Derived.Test.YtokdbedineoklaaFieldLists
namespace Go.Proofs.Ytokdbedineoklaa
open Go.ChangeShapes Go.WideShapes Go.ChangeAt Go.RowKit F Flow
set_option linter.unusedVariables false
attribute [local go_sem] eql_elem

set_option maxRecDepth 100000 in
set_option maxHeartbeats 8000000 in
theorem fieldLists_other (n f x many : Int) (A B : Option Addr) (xs ys : List Int) (N M c d : Nat) (h1 : N ≤ 20) (h2 : M ≤ 20) (hne : N ≠ M) (hNx : xs.length = N) (h3 : many ≤ 40) (h4 : -9223372036854775808 ≤ many)
    (x0 : 0 ≤ x) (x1 : x < 340282366920938463463374607431768211456) (hxs : ElemsOK xs)
    (hf : ∀ w, Calls Try.prog 10 #[.int .u8 n] w fun e w' => e = .returned (.int .u8 f) ∧ Below w.heap.size w w') (f0 : 0 ≤ f ∧ f ≤ 2)
    (hval : ∀ w, Calls Try.prog 29 #[.int .u8 f] w fun e w' => e = .returned (.bool true) ∧ Below w.heap.size w w')
    (hone : ∀ w, Calls Try.prog 24 #[.int .u8 f] w fun e w' => e = .returned (.agg #[.int .u64 1, .int .u64 0]) ∧ Below w.heap.size w w')
    (hadd : OpBy 14 f (add f)) (hmul : OpBy 20 f (mul f)) (w : World) (hA : ElemsAt w A xs) :
    Calls Try.prog 6 #[.int .u8 n, .slice A N c, .slice B M d, .agg #[.int .u64 (lo x), .int .u64 (hi x)], .int .i64 many] w fun e w' => e = .returned (.bool true) ∧ Below w.heap.size w w' := by
  have hv1 := Lib.hid (faddvec_size f A B N M c d hne (by unfold maxLen; omega) (by unfold maxLen; omega) hval)
  have hv2 := Lib.hid (fsubvec_size f A B N M c d hne (by unfold maxLen; omega) (by unfold maxLen; omega) hval)
  have hv3 := Lib.hid (fdot_size f (add f) A B N M c d hne (by unfold maxLen; omega) (by unfold maxLen; omega) hval hadd)
  have hv4 := Lib.hid (fpowers_all f x many (mul f) x0 x1 h4 (by omega) hval hone hmul)
  have hv5 := Lib.hid (fun w hA => fsum_gen f (add f) xs A c hxs (by unfold maxLen; omega) hadd w hA)
  rw [hNx] at hv5
  have hd : ((N : Int) != (M : Int)) = true := by simp; omega
  replace hf := Lib.hid hf
  replace hNx := Lib.hid hNx
  have hw8 : IntKind.i64.wrap f = f := IntWalk.i64_in _ (by omega)
  clear hval hone hmul hadd
  go_enter Try.func6, Try.ntmps6
  go_wp2_with fail
  refine name_calls (fun w1 => Below w.heap.size w w1 ∧ Holds w1 w.heap.size x) ⟨(Below.refl _ _).alloc (Nat.le_refl _) _, alloc_at rfl⟩ ?_
  rintro w1 ⟨hb, hx⟩
  refine call_then (fawake_any _) ?_
  intro w2 hw
  replace hb := below_next hb hb.size hw
  replace hx := hx.up hw
  clear hw
  go_wp2_with fail
  refine call_then (hf.out _) ?_
  intro w9 hw
  replace hb := below_next hb hb.size hw
  replace hx := hx.up hw
  clear hw
  go_wp2_with fail
  refine call_then (hf.out _) ?_
  intro w9 hw
  replace hb := below_next hb hb.size hw
  replace hx := hx.up hw
  clear hw
  go_wp2_with fail
  refine call_then (hv1.out _) ?_
  intro w9 hw
  replace hb := below_next hb hb.size hw
  replace hx := hx.up hw
  clear hw
  go_wp2_with fail
  refine call_then (hv2.out _) ?_
  intro w9 hw
  replace hb := below_next hb hb.size hw
  replace hx := hx.up hw
  clear hw
  go_wp2_with fail
  refine call_then (hv3.out _) ?_
  intro w3 hw
  replace hb := below_next hb hb.size hw
  replace hx := hx.up hw
  clear hw hv1 hv2 hv3
  go_wp2
  as_aux_lemma =>
  refine name_wp (fun w6 => Below w.heap.size w w6 ∧ Holds w6 w.heap.size x ∧ Holds w6 (w3.heap.size + 1) ((xs.take 0).foldl (add f) 0)) ⟨(hb.alloc hb.size _).alloc (by simp; have := hb.size; omega) _, (hx.alloc _).alloc _, alloc_at (by simp)⟩ ?_
  have hps : w.heap.size < w3.heap.size + 1 := Nat.lt_succ_of_lt (lt_of_get hx)
  clear hb hx
  generalize w3.heap.size + 1 = s at *
  rintro w6 ⟨hb, hx, hs⟩
  go_loopw [151] (fun i wr => ∃ k : Nat, k ≤ N ∧ i = .int .i64 k ∧ Below w.heap.size w wr ∧ Holds wr w.heap.size x ∧ Holds wr s ((xs.take k).foldl (add f) 0)) (fun i _ => N - (intOf i).toNat)
  case atStart => exact ⟨0, Nat.zero_le _, rfl, hb, hx, hs⟩
  case round =>
    obtain ⟨k, hk, rfl, hb, hx, hs⟩ := hrel
    by_cases hlt : k < N
    · obtain ⟨b1, o1, rfl, ha⟩ := hA.came (k := k) (by rw [hNx.out]; exact hlt)
      have hxk := hxs.at_ (k := k) (by rw [hNx.out]; exact hlt)
      have hf := Lib.hid (foldl_take (add f) xs 0 k (by rw [hNx.out]; exact hlt))
      have hS : 0 ≤ (xs.take k).foldl (add f) 0 ∧ (xs.take k).foldl (add f) 0 < 340282366920938463463374607431768211456 := foldl_ok (fun a b => by have h := add_bound f a b; have := M_lt f; omega) (by omega)
      generalize (xs.take k).foldl (add f) 0 = S at *
      generalize xs.getD k 0 = t at *
      have c0 := (ha wr hb).1
      have c1 := (ha wr hb).2
      obtain ⟨s0, s1, s2, s3⟩ := blk2 hs
      have l1 := lt_of_get hs
      have l2 : s ≠ wr.heap.size := Nat.ne_of_lt l1
      replace ha := Lib.hid ha
      go_wp2_with fail
      refine name_calls (fun w2 => Below w.heap.size w w2 ∧ Holds w2 w.heap.size x ∧ Holds w2 s S) ⟨hb.alloc hb.size _, hx.alloc _, hs.alloc _⟩ ?_
      clear s0 s1 s2 s3 c0 c1 l1 l2 hb hx hs
      rintro w2 ⟨hb, hx, hs⟩
      refine call_then (add_any f S t hS.1 hS.2 hxk.1 hxk.2 _) ?_
      intro w3 hw
      replace hb := below_next hb hb.size hw
      replace hx := hx.up hw
      replace hs := hs.up hw
      clear hw
      obtain ⟨s0, s1, s2, s3⟩ := blk2 hs
      go_wp2
      clear s0 s1 s2 s3
      go_roundw
      case rel => exact ⟨k + 1, hlt, by go_num, below_store2 hb (Nat.le_of_lt hps), hx.far (Nat.ne_of_lt hps), by rw [hf.out]; exact hs.set _⟩
      case measure => simp [intOf]; omega
    · have hkN : N = k := by omega
      subst hkN
      rw [List.take_of_length_le (by rw [hNx.out]; exact Nat.le_refl _)] at hs
      obtain ⟨e0, e1, e2, e3⟩ := blk2 hx
      go_wp2_with fail
      clear e0 e1 e2 e3
      refine (hv4.out _).mono ?_
      rintro e w7 ⟨L, c4, rfl, hw, hL⟩
      replace hb := below_next hb hb.size hw
      replace hx := hx.up hw
      replace hs := hs.up hw
      clear hw hv4
      go_wp2
      refine name_wp (fun w8 => Below w.heap.size w w8 ∧ Holds w8 w.heap.size x ∧ Holds w8 s (xs.foldl (add f) 0) ∧ ElemsAt w8 L (powers (mul f) x many.toNat) ∧ Holds w8 w7.heap.size (power (mul f) x 0))
        ⟨hb.alloc hb.size _, hx.alloc _, hs.alloc _, hL.up ((Below.refl _ _).alloc (Nat.le_refl _) _), alloc_at rfl⟩ ?_
      have hpp : s < w7.heap.size := lt_of_get hs
      have hLb : Hid (∀ b o, L = some ⟨b, o, none⟩ → (powers (mul f) x many.toNat).length ≠ 0 → b < w7.heap.size) := fun b o e hne => by
        obtain ⟨b', o', e', h1, h2⟩ := hL 0 (by omega)
        rw [e] at e'
        cases e'
        exact World.block_lt_of_cell? _ _ h1
      clear hb hx hs hL
      generalize w7.heap.size = p8 at *
      rintro w8 ⟨hb, hx, hs, hL, hp⟩
      go_loopw [167] (fun i wr => ∃ k : Nat, k ≤ many.toNat ∧ i = .int .i64 k ∧ Below w.heap.size w wr ∧ Holds wr w.heap.size x ∧ Holds wr s (xs.foldl (add f) 0) ∧ ElemsAt wr L (powers (mul f) x many.toNat) ∧ Holds wr p8 (power (mul f) x k)) (fun i _ => many.toNat - (intOf i).toNat)
      case atStart => exact ⟨0, Nat.zero_le _, rfl, hb, hx, hs, hL, hp⟩
      case round =>
        obtain ⟨k, hk, rfl, hb, hx, hs, hL, hp⟩ := hrel
        by_cases hlt : k < many.toNat
        · have hlt2 : k < (powers (mul f) x many.toNat).length := by rw [powers_length]; exact hlt
          obtain ⟨b3, o3, rfl, c0, c1⟩ := hL k hlt2
          rw [powers_at _ _ hlt] at c0 c1
          have hP := power_ok (op := mul f) (a := x) (fun y _ _ => by have h := mul_bound f y x; have := M_lt f; omega) k
          have hst : Hid (power (mul f) x (k + 1) = mul f (power (mul f) x k) x) := rfl
          generalize hPP : power (mul f) x k = P at *
          replace hPP := Lib.hid hPP
          obtain ⟨s0, s1, s2, s3⟩ := blk2 hp
          obtain ⟨t0, t1, t2, t3⟩ := blk2 hx
          have l1 := lt_of_get hp
          have l2 : p8 ≠ wr.heap.size := Nat.ne_of_lt l1
          have l3 := lt_of_get hx
          have l4 : w.heap.size ≠ wr.heap.size := Nat.ne_of_lt l3
          have i0 : (0 : Int) ≤ (k : Int) := by omega
          have i1 : (k : Int) < (many.toNat : Int) := by omega
          have i2 : (many.toNat : Int) ≤ 40 := by omega
          replace hlt2 := Lib.hid hlt2
          replace hL := Lib.hid hL
          go_wp2_with fail
          refine name_calls (fun w2 => Below w.heap.size w w2 ∧ Holds w2 w.heap.size x ∧ Holds w2 s (xs.foldl (add f) 0) ∧ Hid (ElemsAt w2 (some ⟨b3, o3, none⟩) (powers (mul f) x many.toNat)) ∧ Holds w2 p8 P)
            ⟨hb.alloc hb.size _, hx.alloc _, hs.alloc _, hL.out.up ((Below.refl _ _).alloc (Nat.le_refl _) _), hp.alloc _⟩ ?_
          clear s0 s1 s2 s3 t0 t1 t2 t3 c0 c1 l1 l2 l3 l4 hb hx hs hL hp
          rintro w2 ⟨hb, hx, hs, hL, hp⟩
          refine call_then (mul_any f P x hP.1 hP.2 x0 x1 _) ?_
          intro w3 hw
          replace hb := below_next hb hb.size hw
          replace hx := hx.up hw
          replace hs := hs.up hw
          replace hL := hL.out.up hw
          replace hp := hp.up hw
          clear hw
          replace hL := Lib.hid hL
          obtain ⟨s0, s1, s2, s3⟩ := blk2 hp
          go_wp2
          clear s0 s1 s2 s3
          go_roundw
          case rel => exact ⟨k + 1, hlt, by go_num, below_store2 hb (by omega), hx.far (by omega), hs.far (by omega), hL.out.far (B := p8) (fun b o e hne => by
            cases e
            exact hLb.out b3 o3 rfl (by rw [powers_length]; omega)) (Nat.le_refl _), by rw [hst.out]; exact hp.set _⟩
          case measure => simp [intOf]; omega
        · have hkm : many.toNat = k := by omega
          have hmx : max many 0 = (many.toNat : Int) := by omega
          obtain ⟨e0, e1, e2, e3⟩ := blk2 hs
          generalize xs.foldl (add f) 0 = S at *
          generalize many.toNat = m at *
          subst hkm
          replace hL := Lib.hid hL
          go_wp2
          refine wp_region_flow0 (by kernel_rfl) (by kernel_rfl) ?_
          intro ι _ φ hφ
          clear e0 e1 e2 e3
          obtain ⟨e0, e1⟩ := hφ.two hs
          repeat (go_big_quiet_step ((first
            | (go_at_call 34; exact flow_call hφ (hv5.out _ (hA.up (below_next hb hb.size (hφ.old _))))))))
          refine wpQuiet_nil ?_
          intro w9 hw9
          clear e0 e1 hφ
          go_wp2
          go_ret
          exact ⟨rfl, below_next hb hb.size hw9⟩

theorem wf_byte2 {a : Int} (h : (Lit.int .u8 a).wf = true) : 0 ≤ a ∧ a ≤ 255 := by
  simpa [Lit.wf, IntKind.min, IntKind.max, IntKind.signed, IntKind.bits] using h
theorem fieldLists_walk (n x many : Int) (A B : Option Addr) (xs ys : List Int) (c d : Nat) (wn : (Lit.int .u8 n).wf = true) (wm : (Lit.int .i64 many).wf = true) (hm : xs.length ≤ maxLen) (hm2 : ys.length ≤ maxLen) (x0 : 0 ≤ x) (x1 : x < 340282366920938463463374607431768211456)
    (hxs : ElemsOK xs) (hys : ElemsOK ys) (w : World) (hA : ElemsAt w A xs) (hB : ElemsAt w B ys) :
    Calls Try.prog 6 #[.int .u8 n, .slice A xs.length c, .slice B ys.length d, .agg #[.int .u64 (lo x), .int .u64 (hi x)], .int .i64 many] w fun e w' => e = .returned (.bool true) ∧ Below w.heap.size w w' := by
  obtain ⟨n0, n1⟩ := wf_byte2 wn
  obtain ⟨m0, m1⟩ := bounds_i64 wm
  by_cases hbig : 20 < xs.length ∨ 20 < ys.length ∨ 40 < many
  · exact fieldLists_big n x many A B xs ys c d hbig hm hm2 w
  · have h1 : xs.length ≤ 20 := by omega
    have h2 : ys.length ≤ 20 := by omega
    have h3 : many ≤ 40 := by omega
    by_cases hxy : xs.length = ys.length
    · rcases Int.emod_two_eq n with hn | hn
      · have := fieldLists_same n 1 x many A B xs ys xs.length c d h1 rfl hxy.symm h3 m0 x0 x1 hxs hys (F_even n hn n0 n1) (by omega) fvalid_one (fone_any 1 (.inl rfl)) opBy_add1 opBy_sub1 opBy_mul1 w hA hB
        rwa [← hxy]
      · have := fieldLists_same n 2 x many A B xs ys xs.length c d h1 rfl hxy.symm h3 m0 x0 x1 hxs hys (F_odd n hn n0 n1) (by omega) fvalid_two (fone_any 2 (.inr rfl)) opBy_add2 opBy_sub2 opBy_mul2 w hA hB
        rwa [← hxy]
    · rcases Int.emod_two_eq n with hn | hn
      · exact fieldLists_other n 1 x many A B xs ys xs.length ys.length c d h1 h2 hxy rfl h3 m0 x0 x1 hxs (F_even n hn n0 n1) (by omega) fvalid_one (fone_any 1 (.inl rfl)) opBy_add1 opBy_mul1 w hA
      · exact fieldLists_other n 2 x many A B xs ys xs.length ys.length c d h1 h2 hxy rfl h3 m0 x0 x1 hxs (F_odd n hn n0 n1) (by omega) fvalid_two (fone_any 2 (.inr rfl)) opBy_add2 opBy_mul2 w hA

theorem own_fieldLists : ownKnob Try.prog.godebug = none := by kernel_rfl
set_option maxRecDepth 100000 in
theorem lifted_fieldLists (os : Os) (started : os.Started) (H : Type) (enc : TypeId × Value → H) :
    ReturnsInHanded {} Try.checked os 6 .any (Rows.fieldListsSpec.pre6 enc Try.prog Try.f6 Rows.fieldListsRow.domain false) (Rows.fieldListsSpec.post enc Try.prog Try.f6 false true false false) := by
  refine returnsInHanded_of_change (C := Try.checked) own_fieldLists started (by kernel_rfl) Try.func6
    (ChangeSpec.witness6 (enc := enc) (C := Try.checked) false ⟨#[], #[.int .u8 0, .slice none 0 0, .slice none 0 0, .agg #[.int .u64 0, .int .u64 0], .int .i64 0], []⟩ 8 (by kernel_rfl) (by kernel_rfl) (by kernel_rfl) (by kernel_rfl)) ?_
  intro W base args ds gs before hval0 hW hcnd _
  have hval : ∀ (j : Nat) t v, Try.f6.params[j]? = some t → args[j]? = some v → Value.okWide Try.prog W .any base t v := hval0
  have hW' := hW
  obtain ⟨p, q, hA0, hV, rfl, hfz, hnd⟩ := hW
  have hA : DataW.TrodAll enc Try.prog W 0 (fun _ => true) true Try.f6.params.toList args.toList ds p := hA0
  rw [Try.params6] at hA hval
  clear hA0 hval0
  obtain ⟨v0, vs0, d0, ds0, p0, q0, hargs, rfl, rfl, h0, r0⟩ := trodAll_cons hA
  obtain ⟨v1, vs1, d1, ds1, p1, q1, rfl, rfl, rfl, h1, r1⟩ := trodAll_cons r0
  obtain ⟨v2, vs2, d2, ds2, p2, q2, rfl, rfl, rfl, h2, r2⟩ := trodAll_cons r1
  obtain ⟨v3, vs3, d3, ds3, p3, q3, rfl, rfl, rfl, h3, r3⟩ := trodAll_cons r2
  obtain ⟨v4, vs4, d4, ds4, p4, q4, rfl, rfl, rfl, h4, r4⟩ := trodAll_cons r3
  obtain ⟨rfl, rfl, rfl⟩ := trodAll_nil r4
  obtain rfl : args = #[v0, v1, v2, v3, v4] := by cases args; simp_all
  obtain ⟨rfl, rfl⟩ := trodVars_none hV
  obtain ⟨a0, rfl, _, _, w0⟩ := open_int Try.underlying5 (hval 0 5 v0 rfl rfl) h0
  obtain ⟨A1, x1, c1, rfl, l1, m1, e1, o1⟩ := open_elems (hval 1 43 v1 rfl rfl) h1
  obtain ⟨A2, x2, c2, rfl, l2, m2, e2, o2⟩ := open_elems (hval 2 43 v2 rfl rfl) h2
  obtain ⟨a3, w3, u3, rfl, _, _⟩ := open_elem (hval 3 24 v3 rfl rfl) h3
  obtain ⟨a4, rfl, _, _, w4⟩ := open_int Try.underlying3 (hval 4 3 v4 rfl rfl) h4
  refine (fieldLists_walk a0 a3 a4 A1 A2 x1 x2 c1 c2 w0 w4 (Nat.le_trans l1 m1) (Nat.le_trans l2 m2) w3 u3 o1 o2 W e1 e2).mono fun e W' ⟨he, hb⟩ => ?_
  subst he
  exact ⟨_, rfl, law_true (by decide +kernel) rfl rfl Try.underlying4 hW' rfl hb⟩
theorem over_fieldLists : Rows.fieldListsRow.holds Try.pinned (OpenSpec.ofChange Rows.fieldListsSpec) :=
  OpenClaim.holds_of_wide 6 Try.f6 rfl rfl rfl rfl rfl rfl rfl ⟨rfl, rfl, rfl, rfl, rfl⟩ rfl rfl rfl rfl rfl (by kernel_rfl) Try.func6 (by kernel_rfl)
    (of_decide_eq_true (by kernel_rfl)) (by unfold Func.isWrapper; first | (rw [if_pos (by decide +kernel)]; kernel_rfl) | (rw [if_neg (by decide +kernel)]; exact ⟨rfl, rfl⟩))
    (fun os started H enc _ => lifted_fieldLists os started H enc)
theorem fieldLists_proved : Rows.FieldListsSaid := over_fieldLists
#print axioms fieldLists_proved
end Go.Proofs.Ytokdbedineoklaa
