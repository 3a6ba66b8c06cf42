/-
  PackOutside: a Reader that is kept does nothing any more; nil ones; no take; what panics otherwise goes on.
-/
import Derived.Test.YtdjgkojcckopaaaRoC
import Derived.Test.YtdjgkojcckopaaaEqInts
import Derived.Test.YtdjgkojcckopaaaBytesArg
namespace Go.Proofs.Ytdjgkojcckopaaa
open Go.RowKit Flow Go.WideShapes Go.ChangeShapes
set_option linter.unusedVariables false
set_option linter.unusedSimpArgs false

theorem at_one {w : World} {b : Nat} {u : Value} {t : TypeId} (h : w.heap[b]? = some (.cells #[u] t (0, 0))) : w.cell? ⟨b, 0, none⟩ = some u ∧ w.frozen? ⟨b, 0, none⟩ = false := by simp [World.cell?, World.frozen?, h]
theorem size_strOf (xs : List Int) : (strOfNums xs).size = xs.length := by simp [strOfNums, ByteArray.size]
theorem same16 {t : TypeId} (ht : Try.prog.underlying t = some (.array 16 5)) (w : World) : (binOp .neq t (.agg zero16.toArray) (.agg #[.int .u8 0, .int .u8 0, .int .u8 0, .int .u8 0, .int .u8 0, .int .u8 0, .int .u8 0, .int .u8 0, .int .u8 0, .int .u8 0, .int .u8 0, .int .u8 0, .int .u8 0, .int .u8 0, .int .u8 0, .int .u8 0])).run Try.prog w = .ok (.bool false) w := by
  have h := run_equalIn_ints (P := Try.prog) (t := t) (e := 5) (n := 16) (k := .u8) ht Try.underlying5 (fun w => Try.sizeOf5 w) 9998 (List.replicate 16 0) (List.replicate 16 0) rfl rfl w
  have e : ((List.replicate 16 (0 : Int)).map (Value.int .u8)).toArray = zero16.toArray := rfl
  rw [e] at h
  simp only [binOp]
  have h2 : (Op.equalIn 10000 t (.agg zero16.toArray) (.agg #[.int .u8 0, .int .u8 0, .int .u8 0, .int .u8 0, .int .u8 0, .int .u8 0, .int .u8 0, .int .u8 0, .int .u8 0, .int .u8 0, .int .u8 0, .int .u8 0, .int .u8 0, .int .u8 0, .int .u8 0, .int .u8 0])).run Try.prog w = .ok true w := h
  simp [Op.equal, Op.maxDepth, h2]
def KeptS (w : World) (kb n : Nat) (r : Nat) (c : Int) (k : Nat) (w2 : World) : Prop := k = n ∧ c = 0 ∧ Below w.heap.size w w2 ∧ w2.heap[kb]? = some (.cells #[.pointer (some ⟨r, 0, none⟩)] 36 (0, 0))
theorem outside1_ok (w wr : World) (kb : Nat) (A : Option Addr) (n cp : Nat) (hb : Below w.heap.size w wr) (hkb : wr.heap[kb]? = some (.cells #[.pointer none] 36 (0, 0))) (hg0 : w.heap.size ≤ kb)
    (w1 : World) (hin : TakeIn wr.heap.size (.slice A n cp) wr w1) :
    Calls Try.prog 25 (#[.pointer (some ⟨wr.heap.size + 3, 0, none⟩)] ++ #[.pointer (some ⟨kb, 0, none⟩)]) w1 (TakeOut wr.heap.size (KeptS w kb n (wr.heap.size + 3))) := by
  have lk := lt_of_get hkb
  have kk := (hin.hb.block kb lk).trans hkb
  have hw1 : Below w.heap.size w w1 := below_next hb hb.size hin.hb
  obtain ⟨c0, f0⟩ := at_one kk
  have hR := hin.hR
  go_enter Try.func25, Try.ntmps25
  go_wp2_with fail
  go_end0
  exact ⟨store_far hin.h0 (by show wr.heap.size ≠ kb; omega), store_far hin.h2 (by show wr.heap.size + 2 ≠ kb; omega), .inl ⟨rfl, A, n, cp, ⟨store_far hR.hr (by show wr.heap.size + 3 ≠ kb; omega), store_far hR.ho (by show wr.heap.size + 1 ≠ kb; omega), hR.hne⟩, rfl, rfl, hw1.setCell (p := ⟨kb, 0, none⟩) hg0 _, (store1 kk (o := 0)).trans rfl⟩⟩
set_option maxRecDepth 100000 in
set_option maxHeartbeats 4000000 in
theorem packOutside_walk (A : Option Addr) (xs : List Int) (c : Nat) (many most : Int) (m0 : -9223372036854775808 ≤ many) (m1 : many ≤ 9223372036854775807) (t0 : 0 ≤ most) (hl : xs.length ≤ 100) (w : World) (hxw : ArgBytes w A xs) :
    Calls Try.prog 6 #[.slice A xs.length c, .int .i64 many, .int .u64 most] w fun e w' => e = .returned (.bool true) ∧ Below w.heap.size w w' := by
  have l0 : (xs.length : Int) ≤ 100 := by omega
  replace hxw := Lib.hid hxw
  have hsz := size_strOf xs
  replace hsz := Lib.hid hsz
  replace m0 := Lib.hid m0
  replace m1 := Lib.hid m1
  replace hl := Lib.hid hl
  generalize hn : xs.length = n at *
  replace hn := Lib.hid hn
  have hmf : ∀ (fn : Fn) (first cap : Array Value) (w : World), (Instr.makeFunc fn first cap).run Try.prog w = .ok (.func fn first cap) w := fun _ _ _ _ => rfl
  go_enter Try.func6, Try.ntmps6
  go_wp2_with fail
  refine call_then (awake12 _) ?_
  intro w1 hb1
  go_wp2_with fail
  have hbw : w.heap.size ≤ w1.heap.size := hb1.size
  have hb2 := hb1.alloc hb1.size (.cells #[.pointer none] 36 (0, 0))
  have kk2 : (w1.alloc (.cells #[.pointer none] 36 (0, 0))).heap[w1.heap.size]? = some (.cells #[.pointer none] 36 (0, 0)) := alloc_at rfl
  have lk2 := lt_of_get kk2
  have hRd := read_gen 25 (fun _ _ => by simp [go_sem]) #[.pointer (some ⟨w1.heap.size, 0, none⟩)] A n c (KeptS w w1.heap.size n ((w1.alloc (.cells #[.pointer none] 36 (0, 0))).heap.size + 3)) (w1.alloc (.cells #[.pointer none] 36 (0, 0)))
    (fun w6 hin => outside1_ok w _ w1.heap.size A n c hb2 kk2 hbw w6 hin)
  refine hRd.mono ?_
  rintro e w3 ⟨c3, k3, w4, ⟨rfl, rfl, hb4, k4⟩, hb5, ⟨err, hR5⟩, rfl⟩
  have k5 := (hb5.block _ lk2).trans k4
  have hb := hb4.trans (hb5.mono hb2.size)
  have hS : Shut w3 (.pointer (some ⟨(w1.alloc (.cells #[.pointer none] 36 (0, 0))).heap.size + 3, 0, none⟩)) := .inr ⟨_, _, err, rfl, hR5⟩
  clear hRd hb4 hb5 k4 hR5 kk2 hb2 hb1 lk2
  generalize (w1.alloc (.cells #[.pointer none] 36 (0, 0))).heap.size + 3 = r at *
  generalize w1.heap.size = kb at *
  obtain ⟨c0, f0⟩ := at_one k5
  go_wp2_with fail
  have hkl := alloc_at (w := w3) (k := w3.heap.size) (o := .cells #[.pointer (some ⟨r, 0, none⟩), .pointer none] 36 (0, 0)) rfl
  have hbl := hb.alloc hb.size (.cells #[.pointer (some ⟨r, 0, none⟩), .pointer none] 36 (0, 0))
  have hSl := hS.up ((Below.refl w3.heap.size w3).alloc (Nat.le_refl _) (.cells #[.pointer (some ⟨r, 0, none⟩), .pointer none] 36 (0, 0)))
  have hq1 := same16 (t := 52) Try.underlying52
  have hq2 := same16 (t := 54) Try.underlying54
  clear c0 f0 k5 hb hS
  generalize w3.heap.size = lb at *
  go_loopw [24] (fun i wr => ∃ j : Nat, j ≤ 2 ∧ i = .int .i64 (j : Int) ∧ Below w.heap.size w wr ∧ wr.heap[lb]? = some (.cells #[.pointer (some ⟨r, 0, none⟩), .pointer none] 36 (0, 0)) ∧ Shut wr (.pointer (some ⟨r, 0, none⟩))) (fun i _ => 2 - (intOf i).toNat)
  case atStart => exact ⟨0, by omega, rfl, hbl, hkl, hSl⟩
  case round =>
    clear hbl hkl hSl
    obtain ⟨j, hj, rfl, hb, kl, hS⟩ := hrel
    by_cases h0 : j = 0
    · subst h0
      obtain ⟨c0, c1, f0, f1⟩ := blk2 kl
      go_wp2_with fail
      refine (fail_shut _ 2 _ hS).mono ?_
      rintro e w9 ⟨rfl, rfl⟩
      clear c0 c1 f0 f1
      go_wp2_with fail
      refine (raw_shut _ many _ hS).mono ?_
      rintro e w9 ⟨rfl, rfl⟩
      go_wp2_with fail
      refine call_then (uint_shut _ many _ hS) ?_
      intro w9 hb9
      replace hb := below_next hb hb.size hb9
      replace kl := keeps hb9 kl
      replace hS := hS.up hb9
      clear hb9
      go_wp2_with fail
      refine call_then (count_shut _ many most t0 _ hS) ?_
      intro w9 hb9
      replace hb := below_next hb hb.size hb9
      replace kl := keeps hb9 kl
      replace hS := hS.up hb9
      clear hb9
      go_wp2_with fail
      refine call_then (long_shut _ many m0.out m1.out _ hS) ?_
      intro w9 hb9
      replace hb := below_next hb hb.size hb9
      replace kl := keeps hb9 kl
      replace hS := hS.up hb9
      clear hb9
      go_wp2_with fail
      refine call_then (text_shut _ _ hS) ?_
      intro w9 hb9
      replace hb := below_next hb hb.size hb9
      replace kl := keeps hb9 kl
      replace hS := hS.up hb9
      clear hb9
      go_wp2_with fail
      refine call_then (seed_shut _ _ hS) ?_
      intro w9 hb9
      replace hb := below_next hb hb.size hb9
      replace kl := keeps hb9 kl
      replace hS := hS.up hb9
      clear hb9
      go_wp2_with fail
      refine call_then (id_shut _ _ hS) ?_
      intro w9 hb9
      replace hb := below_next hb hb.size hb9
      replace kl := keeps hb9 kl
      replace hS := hS.up hb9
      clear hb9
      go_wp2_with fail
      refine (left_shut _ _ hS).mono ?_
      rintro e w9 ⟨rfl, rfl⟩
      go_wp2
      exact ⟨⟨1, by omega, by go_num, hb, kl, hS⟩, by simp [intOf]⟩
    · by_cases h1 : j = 1
      · subst h1
        obtain ⟨c0, c1, f0, f1⟩ := blk2 kl
        go_wp2_with fail
        refine (fail_shut _ 2 _ (.inl rfl)).mono ?_
        rintro e w9 ⟨rfl, rfl⟩
        clear c0 c1 f0 f1
        go_wp2_with fail
        refine (raw_shut _ many _ (.inl rfl)).mono ?_
        rintro e w9 ⟨rfl, rfl⟩
        go_wp2_with fail
        refine call_then (uint_shut _ many _ (.inl rfl)) ?_
        intro w9 hb9
        replace hb := below_next hb hb.size hb9
        replace kl := keeps hb9 kl
        replace hS := hS.up hb9
        clear hb9
        go_wp2_with fail
        refine call_then (count_shut _ many most t0 _ (.inl rfl)) ?_
        intro w9 hb9
        replace hb := below_next hb hb.size hb9
        replace kl := keeps hb9 kl
        replace hS := hS.up hb9
        clear hb9
        go_wp2_with fail
        refine call_then (long_shut _ many m0.out m1.out _ (.inl rfl)) ?_
        intro w9 hb9
        replace hb := below_next hb hb.size hb9
        replace kl := keeps hb9 kl
        replace hS := hS.up hb9
        clear hb9
        go_wp2_with fail
        refine call_then (text_shut _ _ (.inl rfl)) ?_
        intro w9 hb9
        replace hb := below_next hb hb.size hb9
        replace kl := keeps hb9 kl
        replace hS := hS.up hb9
        clear hb9
        go_wp2_with fail
        refine call_then (seed_shut _ _ (.inl rfl)) ?_
        intro w9 hb9
        replace hb := below_next hb hb.size hb9
        replace kl := keeps hb9 kl
        replace hS := hS.up hb9
        clear hb9
        go_wp2_with fail
        refine call_then (id_shut _ _ (.inl rfl)) ?_
        intro w9 hb9
        replace hb := below_next hb hb.size hb9
        replace kl := keeps hb9 kl
        replace hS := hS.up hb9
        clear hb9
        go_wp2_with fail
        refine (left_shut _ _ (.inl rfl)).mono ?_
        rintro e w9 ⟨rfl, rfl⟩
        go_wp2
        exact ⟨⟨2, by omega, by go_num, hb, kl, hS⟩, by simp [intOf]⟩
      · obtain rfl : j = 2 := by omega
        clear h0 h1 hq1 hq2 hmf kl hS
        go_wp2_with fail
        refine (wraw_nil _ _).mono ?_
        rintro e w9 ⟨rfl, rfl⟩
        go_wp2_with fail
        refine call_then (wuint_nil most many t0 _) ?_
        intro w9 hb9
        replace hb := below_next hb hb.size hb9
        clear hb9
        go_wp2_with fail
        refine call_then (wlong_nil A _ c (by have := hl.out; omega) _) ?_
        intro w10 hb9
        replace hb := below_next hb hb.size hb9
        clear hb9
        have hcv := (hxw.out.up hb).conv (P := Try.prog) (src := 23) (e := 5) (dst := 9) Try.underlying23 Try.underlying5 Try.underlying9 c
        rw [hn.out] at hcv
        have hs100 : (strOfNums xs).size ≤ 100 := by rw [hsz.out]; exact hl.out
        have hT := Lib.hid (wtext_nil (strOfNums xs) hs100)
        clear hs100
        generalize strOfNums xs = s at *
        go_wp2_with fail
        refine call_then (hT.out _) ?_
        intro w11 hb9
        replace hb := below_next hb hb.size hb9
        clear hb9 hT hcv
        go_wp2_with fail
        refine (wbytes_nil _).mono ?_
        rintro e w9 ⟨rfl, rfl⟩
        go_wp2_with fail
        refine call_then (read_nil _ _) ?_
        intro w12 hb9
        replace hb := below_next hb hb.size hb9
        clear hb9
        go_wp2_with fail
        refine call_then (other_any A _ c _) ?_
        intro w13 hb9
        replace hb := below_next hb hb.size hb9
        clear hb9
        go_wp2
        go_ret
        exact ⟨rfl, hb⟩
theorem packOutside_long (A : Option Addr) (n c : Nat) (many most : Int) (hl : 100 < n) (hm : n ≤ maxLen) (w : World) :
    Calls Try.prog 6 #[.slice A n c, .int .i64 many, .int .u64 most] w fun e w' => e = .returned (.bool true) ∧ Below w.heap.size w w' := by
  unfold maxLen at hm
  have l0 : 100 < (n : Int) := by omega
  go_enter Try.func6, Try.ntmps6
  go_wp2_with fail
  refine call_then (awake12 _) ?_
  intro w1 hb1
  go_wp2
  go_ret
  exact ⟨rfl, hb1⟩

theorem own_packOutside : ownKnob Try.prog.godebug = none := by kernel_rfl
set_option maxRecDepth 100000 in
theorem lifted_packOutside (os : Os) (started : os.Started) (H : Type) (enc : TypeId × Value → H) :
    ReturnsInHanded {} Try.checked os 6 .any (Rows.packOutsideSpec.pre6 enc Try.prog Try.f6 Rows.packOutsideRow.domain false) (Rows.packOutsideSpec.post enc Try.prog Try.f6 false true false false) := by
  refine returnsInHanded_of_change (C := Try.checked) own_packOutside started (by kernel_rfl) Try.func6
    (ChangeSpec.witness6 (enc := enc) (C := Try.checked) false ⟨#[], #[.slice none 0 0, .int .i64 0, .int .u64 0], []⟩ 8 (by kernel_rfl) (by kernel_rfl) (by kernel_rfl) (by kernel_rfl)) ?_
  intro W base args ds gs before hval0 hW hcnd _
  have hval : ∀ (j : Nat) t v, Try.f6.params[j]? = some t → args[j]? = some v → Value.okWide Try.prog W .any base t v := hval0
  have hW' := hW
  obtain ⟨p, q, hA0, hV, rfl, hfz, hnd⟩ := hW
  have hA : DataW.TrodAll enc Try.prog W 0 (fun _ => true) true Try.f6.params.toList args.toList ds p := hA0
  rw [Try.params6] at hA hval
  clear hA0 hval0
  obtain ⟨v0, vs0, d0, ds0, p0, q0, hargs, rfl, rfl, h0, r0⟩ := trodAll_cons hA
  obtain ⟨v1, vs1, d1, ds1, p1, q1, rfl, rfl, rfl, h1, r1⟩ := trodAll_cons r0
  obtain ⟨v2, vs2, d2, ds2, p2, q2, rfl, rfl, rfl, h2, r2⟩ := trodAll_cons r1
  obtain ⟨rfl, rfl, rfl⟩ := trodAll_nil r2
  obtain rfl : args = #[v0, v1, v2] := by cases args; simp_all
  obtain ⟨rfl, rfl⟩ := trodVars_none hV
  obtain ⟨A, xs, c, rfl, hlc, hcm, hx, hok, -⟩ := open_argbytes (hval 0 23 v0 rfl rfl) h0
  obtain ⟨a1, rfl, _, _, w1⟩ := open_int Try.underlying3 (hval 1 3 v1 rfl rfl) h1
  obtain ⟨a2, rfl, _, _, w2⟩ := open_int Try.underlying27 (hval 2 27 v2 rfl rfl) h2
  have hr1 : -9223372036854775808 ≤ a1 ∧ a1 ≤ 9223372036854775807 := by simpa [Lit.wf, IntKind.min, IntKind.max, IntKind.signed, IntKind.bits] using w1
  have hr2 : 0 ≤ a2 ∧ a2 ≤ 18446744073709551615 := by simpa [Lit.wf, IntKind.min, IntKind.max, IntKind.signed, IntKind.bits] using w2
  have key : Calls Try.prog 6 #[.slice A xs.length c, .int .i64 a1, .int .u64 a2] W fun e w' => e = .returned (.bool true) ∧ Below W.heap.size W w' := by
    by_cases hl : xs.length ≤ 100
    · exact packOutside_walk A xs c a1 a2 hr1.1 hr1.2 hr2.1 hl W hx
    · exact packOutside_long A xs.length c a1 a2 (by omega) (by omega) W
  refine key.mono fun e W' ⟨he, hb⟩ => ?_
  subst he
  exact ⟨_, rfl, law_true (by decide +kernel) rfl rfl Try.underlying4 hW' rfl hb⟩
theorem over_packOutside : Rows.packOutsideRow.holds Try.pinned (OpenSpec.ofChange Rows.packOutsideSpec) :=
  OpenClaim.holds_of_wide 6 Try.f6 rfl rfl rfl rfl rfl rfl rfl ⟨rfl, rfl, rfl, rfl, rfl⟩ rfl rfl rfl rfl rfl (by kernel_rfl) Try.func6 (by kernel_rfl)
    (of_decide_eq_true (by kernel_rfl)) (by unfold Func.isWrapper; first | (rw [if_pos (by decide +kernel)]; kernel_rfl) | (rw [if_neg (by decide +kernel)]; exact ⟨rfl, rfl⟩))
    (fun os started H enc _ => lifted_packOutside os started H enc)
theorem packOutside_proved : Rows.PackOutsideSaid := over_packOutside
#print axioms packOutside_proved
end Go.Proofs.Ytdjgkojcckopaaa
