/-
  XofVecs: its walk.
-/
import Derived.Test.YtfklkplnbmhddaaDoorXpC
import Derived.Test.YtfklkplnbmhddaaDoorBytesArg
namespace Go.Proofs.YtfklkplnbmhddaaDoor
open Go.RowKit Flow Go.Maps F
set_option linter.unusedVariables false
set_option linter.unusedSimpArgs false

set_option maxRecDepth 20000 in
set_option maxHeartbeats 8000000 in
theorem vecs_walk (nn mm f : Int) (N : Nat) (hTake : TakeBy f f N) (hS : ∀ w, Calls Tryd.prog 21 #[.int .u8 f] w fun e w' => e = .returned (.int .i64 (N : Int)) ∧ Below w.heap.size w w') (hVal : ∀ w, Calls Tryd.prog 34 #[.int .u8 f] w fun e w' => e = .returned (.bool true) ∧ Below w.heap.size w w') (hRin : RinBy f)
    (hf : 1 + nn % 2 = f) (hN8 : 8 ≤ N) (hN : N ≤ 16) (hM : 0 < M f) (n0 : 0 ≤ nn) (n1 : nn < 256) (w : World) (A : Option Addr) (d : List Int) (cc : Nat) (hl : d.length ≤ 400) (hok : BytesOK d) (hA : ArgBytes w A d) (hcc : A = none → cc = 0) :
    Calls Tryd.prog 4 #[.slice A d.length cc, .int .u8 nn, .int .i64 mm] w fun e w' => e = .returned (.bool true) ∧ Below w.heap.size w w' := by
  have hAw := Lib.hid (awake_ok w)
  have hF := fun w => lawF_any nn n0 n1 w
  rw [hf] at hF
  have f0 : 0 ≤ f := by omega
  have f2 : f < 256 := by omega
  have hm0 : 0 ≤ IntKind.u64.wrap mm := by rw [IntKind.wrap_u64]; omega
  obtain ⟨K, hK'⟩ : ∃ K : Nat, IntKind.u64.wrap mm % 20 = (K : Int) := ⟨(IntKind.u64.wrap mm % 20).toNat, by omega⟩
  have hK : (IntKind.u64.wrap mm).tmod 20 = (K : Int) := by rw [Int.tmod_eq_emod_of_nonneg hm0]; exact hK'
  have hK20 : K < 20 := by omega
  have zK : IntKind.i64.wrap (K : Int) = (K : Int) := wrap_nat rfl (by omega)
  clear hK' hm0
  have b1 : decide ((d.length : Int) > 400) = false := by rw [decide_eq_false_iff_not]; omega
  have b2 : decide ((400 : Int) < (d.length : Int)) = false := by rw [decide_eq_false_iff_not]; omega
  replace hTake := Lib.hid hTake
  replace hS := Lib.hid hS
  replace hVal := Lib.hid hVal
  replace hRin := Lib.hid hRin
  replace hF := Lib.hid hF
  replace hf := Lib.hid hf
  replace hM := Lib.hid hM
  replace hok := Lib.hid hok
  go_enter Tryd.func4, Tryd.ntmps4
  go_wp2_with fail
  refine call_then hAw.out ?_
  intro w1 hb1
  clear hAw
  go_wp2_with fail
  refine call_then (hF.out _) ?_
  intro w2 hb2
  replace hb1 := below_next hb1 hb1.size hb2
  clear hb2
  go_wp2_with fail
  refine call_then (hF.out _) ?_
  intro w3 hb2
  replace hb1 := below_next hb1 hb1.size hb2
  clear hb2
  go_upto_region 7 with (fail)
  clear hK zK
  have hO := Lib.hid (ora_made A d.length cc d w3 (arg_news (hA.up hb1) hcc) (by omega))
  go_wp2_with fail
  refine hO.out.mono ?_
  rintro e w4 ⟨s1, own1, rfl, hb4, h4⟩
  have hN1 := Lib.hid (solo_new N h4)
  have ha4 := h4.above hb1.size
  have hs4 := hb4.size
  have hs3 := hb1.size
  replace hb1 := below_next hb1 hb1.size hb4
  clear hO hb4 h4
  replace hb1 := Lib.hid hb1
  replace ha4 := Lib.hid ha4
  replace hs3 := Lib.hid hs3
  replace hs4 := Lib.hid hs4
  go_wp2_with fail
  refine hN1.out.mono ?_
  rintro e w5 ⟨x1, own2, rfl, h5, hx5, hT5⟩
  have hb5 := hT5.below hb1.out hb1.out.size ha4.out
  have ha5 : ∀ q r, own2 q = some r → w.heap.size ≤ q := fun q r hq => Nat.le_trans hs3.out (h5.own q r hq).1
  have hx1w : w.heap.size ≤ x1 := Nat.le_trans hb1.out.size hx5
  clear hN1 hT5 ha4 hb1 hx5 hs3 hs4
  have hV := Lib.hid (vec_in f f N hTake.out hS.out hVal.out hok.out (by omega) hN (by rw [qT_size]; omega) h5 K (by omega) (posF f d N) (posF_steps hl hN8 hM.out (by omega)) (fun i _ => (nb_far hl hN8 hM.out _).1) (elsF f d N K) (elsF_len f d N K) (fun i hi => elsF_at f d N K i hi))
  clear h5
  replace hb5 := Lib.hid hb5
  replace ha5 := Lib.hid ha5
  replace hx1w := Lib.hid hx1w
  go_wp2_with fail
  refine hV.out.mono ?_
  rintro e w6 ⟨g, own3, rfl, h6, hT6, -, -, hgw, hr6⟩
  have hb6 := hT6.below hb5.out hb5.out.size hx1w.out ha5.out
  have hsx := h6.str
  have hx6 := h6.lt
  clear hV hT6 ha5 hx1w hb5 h6
  obtain ⟨o, ho⟩ : ∃ o, w6.heap.size = o := ⟨_, rfl⟩
  have hfar := arg_far hA (S := o) (by rw [← ho]; exact hb6.size) (by omega)
  have ha7 := (Below.refl w6.heap.size w6).alloc (Nat.le_refl _) (.cells #[.slice A d.length cc, .int .i64 0, .slice none 0 0] 54 (0, 0))
  replace hb6 := Lib.hid hb6
  replace hsx := Lib.hid hsx
  replace hr6 := Lib.hid hr6
  replace ho := Lib.hid ho
  replace hfar := Lib.hid hfar
  replace hgw := Lib.hid hgw
  go_upto_region 10 with (fail)
  refine name_wp (fun w7 => Below w6.heap.size w6 w7 ∧ w7.heap[w6.heap.size]? = some (.cells #[.slice A d.length cc, .int .i64 0, .slice none 0 0] 54 (0, 0))) ⟨ha7, alloc_at rfl⟩ ?_
  rintro w7 ⟨hb7, hs7⟩
  obtain ⟨b, hf1, hf2⟩ := hfar.out
  have hfd := find_ok (B := o) ⟨#[113]⟩ hs7 (Nat.le_of_eq ho.out.symm) ⟨b, hf1, hf2, arg_news (hA.up (below_next hb6.out hb6.out.size hb7)) hcc⟩
  rw [ho.out] at hfd hb7
  replace hfd := Lib.hid hfd
  replace hb7 := Lib.hid hb7
  have ho' := ho.out
  clear ha7 hs7 hf1 hf2 hfar
  generalize hsz : w6.heap.size = sz at *
  obtain rfl : sz = o := ho'
  clear ho
  replace hsz := Lib.hid hsz
  go_wp2_with fail
  refine hfd.out.mono ?_
  rintro e w8 ⟨lb, lc, own4, rfl, hbut, hR⟩
  have hb8 : Below sz w6 w8 := hbut.below hb7.out (Nat.le_refl _) (by have := hb7.out.size; have := hsz.out; omega)
  clear hfd hbut hb7
  have hd0 : 0 * N = 0 := Nat.zero_mul N
  go_wp2
  go_loopw [15, 16, 17] (fun fr sk wv wr => ∃ (i c : Nat) (own1 : Nat → Option Role), At2 f d N K i c ∧ fr = .int .i64 ((c * N : Nat) : Int) ∧ sk = .int .i64 ((c - i : Nat) : Int) ∧ RefO wr sz sz lb lc own1 d A cc (c * N) ∧ Below sz w6 wr ∧ wr.ownsRow sz 58 2 wv i (ecells (elsF f d N i)) ∧ (∀ g, wv.ownBlock = some g → own1 g = none)) (fun fr _ _ _ => posF f d N K * N - (intOf fr).toNat)
  case atStart => exact ⟨0, 0, own4, At2.start _ _ _ _, by rw [hd0]; rfl, rfl, by rw [hd0]; exact hR, hb8, ⟨rfl, .inl ⟨rfl, rfl⟩⟩, fun g h => by cases h⟩
  case round =>
    clear hR hb8
    obtain ⟨i, c, own1, hAt, rfl, rfl, hR, hb, hw, hwo⟩ := hrel
    obtain ⟨wa, wc, rfl⟩ := owns_slice hw
    have hpl := (posF_le hl hN8 hM.out K).1
    by_cases hlt : i < K
    · have hcp := hAt.below hlt
      have hcb : c ≤ 70 := by omega
      have hcN : c * N ≤ 70 * 16 := Nat.mul_le_mul hcb hN
      have b3 : decide ((i : Int) < (K : Int)) = true := by rw [decide_eq_true_eq]; omega
      obtain ⟨F, hF1⟩ : ∃ F, c * N = F := ⟨_, rfl⟩
      obtain ⟨F2, hF2⟩ : ∃ F2, F + N = F2 := ⟨_, rfl⟩
      have hF3 : (c + 1) * N = F2 := by rw [Nat.succ_mul, hF1, hF2]
      have zF : IntKind.i64.wrap ((F : Int) + (N : Int)) = (F2 : Int) := wrap_nat (by omega) (by omega)
      have hmeas : posF f d N K * N - F2 < posF f d N K * N - F := by
        have : (c + 1) * N ≤ posF f d N K * N := Nat.mul_le_mul_right _ hcp
        omega
      obtain ⟨D, hD⟩ : ∃ D, c - i = D := ⟨_, rfl⟩
      rw [hF1]
      rw [hD]
      replace hAt := Lib.hid hAt
      replace hF1 := Lib.hid hF1
      replace hF2 := Lib.hid hF2
      replace hF3 := Lib.hid hF3
      replace hmeas := Lib.hid hmeas
      replace hD := Lib.hid hD
      replace hb := Lib.hid hb
      replace hwo := Lib.hid hwo
      replace hw := Lib.hid hw
      replace hR := Lib.hid hR
      go_wp2_with fail
      refine call_then (hS.out _) ?_
      intro w9 hb9
      have hR9 := hR.out.below hb9
      have hw9 := owns_up hw.out hb9
      have hsz9 : sz ≤ wr.heap.size := (hR.out.hown sz _ hR.out.rs).2 |> Nat.le_of_lt
      have hb10 := below_next hb.out hsz9 hb9
      have hOR := oread_ok N c hR9 (by omega) hN (by omega) (by omega)
      rw [hF1.out] at hOR
      rw [hF3.out] at hOR
      replace hOR := Lib.hid hOR
      have hwl := hw9.lt
      have hsz10 : sz ≤ w9.heap.size := Nat.le_trans hsz9 hb9.size
      have hon := hR9.hown
      clear hR hb hw hb9 hR9
      replace hw9 := Lib.hid hw9
      replace hb10 := Lib.hid hb10
      replace hwl := Lib.hid hwl
      replace hon := Lib.hid hon
      go_wp2_with fail
      refine hOR.out.mono ?_
      rintro e w10 ⟨A2, cap2, own2, rfl, hR10, hT10, hby⟩
      have hw10 := row_keep hw9.out fun g hg => (hT10.keep g (hwl.out g hg).2 (hwo.out g hg)).1
      have hwo10 : ∀ g, (Value.slice wa i wc).ownBlock = some g → own2 g = none := fun g hg => (hT10.keep g (hwl.out g hg).2 (hwo.out g hg)).2
      have hb11 := hT10.below hb10.out hsz10 (fun k r hk => (hon.out k r hk).1)
      clear hOR hw9 hwl hon hT10 hb10 hwo
      have hsz11 : sz ≤ w10.heap.size := (hR10.hown sz _ hR10.rs).2 |> Nat.le_of_lt
      by_cases hV : chv d N c < M f
      · obtain ⟨hel, hAt2⟩ := hAt.out.took hlt hV
        have hTk := rtake_any f (chk d N c) A2 N cap2 (chk_len _ _ _) hN8 hN (chk_ok hok.out N c) hRin.out w10 hby (chv d N c) rfl hV
        obtain ⟨V, hVV⟩ : ∃ V, chv d N c = V := ⟨_, rfl⟩
        rw [hVV] at hTk hel
        replace hTk := Lib.hid hTk
        replace hel := Lib.hid hel
        replace hAt2 := Lib.hid hAt2
        replace hR10 := Lib.hid hR10
        replace hw10 := Lib.hid hw10
        replace hb11 := Lib.hid hb11
        replace hwo10 := Lib.hid hwo10
        clear hV hVV hby
        go_wp2_with fail
        refine call_then hTk.out ?_
        intro w11 hb12
        have hW := (⟨hR10.out, hb11.out, hw10.out, hwo10.out⟩ : Want w6 w10 sz lb lc own2 d A cc F2 _ _ _).below hb12
        clear hTk hR10 hw10 hb11 hb12 hwo10
        replace hW := Lib.hid hW
        go_upto_region 14 with (fail)
        refine name_wp (fun w12 => Below w11.heap.size w11 w12 ∧ w12.heap[w11.heap.size]? = some (.cells #[.int .u64 (lo V), .int .u64 (hi V)] 58 (0, 0))) ⟨(Below.refl _ _).alloc (Nat.le_refl _) _, alloc_at rfl⟩ ?_
        rintro w12 ⟨hb12, hp⟩
        replace hW := Lib.hid (hW.out.below hb12)
        generalize w11.heap.size = p at *
        clear hb12
        go_wp2_with fail
        refine call_then (hS.out _) ?_
        intro w13 hb13
        replace hW := hW.out.below hb13
        replace hp := keeps hb13 hp
        clear hb13
        obtain ⟨e0, e1, -, -⟩ := blk2 hp
        obtain ⟨ie, hie, he0, he1, he2⟩ := info_parts info_elemv
        have hbA := (Below.refl w13.heap.size w13).alloc (Nat.le_refl _) (.cells #[.int .u64 (lo V), .int .u64 (hi V)] 58 (0, 0))
        have hW2 := hW.below hbA
        have hnw := news_two (w := w13.alloc (.cells #[.int .u64 (lo V), .int .u64 (hi V)] 58 (0, 0))) (alloc_at rfl) 1
        have t1 : i + 1 ≤ maxLen := by unfold maxLen; omega
        have t2 : (i + 1) * 16 ≤ 140737488355328 := by omega
        have t3 := hW2.room
        have tone : ∀ u ∈ [Value.int .u64 (lo V), Value.int .u64 (hi V)], u.oneCell' = true := by
          intro u hu
          simp only [List.mem_cons, List.not_mem_nil, or_false] at hu
          rcases hu with rfl | rfl <;> rfl
        have hrow2 := hW2.row
        replace hW2 := Lib.hid hW2
        have hW3 := hW2
        replace t3 := Lib.hid t3
        clear hW hbA hp
        go_wp2_with (at_builtin; go_loud (refine wpList_append_wh rfl _ _ 47 rfl sz 58 ie (.agg #[.int .u64 0, .int .u64 0]) 2 16 Tryd.underlying47 hie he0 he1 he2 rfl (by decide) _ _ _ rfl hrow2 _ 1 1 _ rfl hnw tone t1 t2 t3.out ?_); intro v15 w15 hown15 hg15 hwh15; replace hW3 := Lib.hid (hW2.out.grown (v' := v15) hg15 hown15 hwh15); clear hg15 hown15 hwh15 hW2 hnw tone t1 t2 t3 hrow2)
        have hW4 := hW3.out
        have hec : ecells (elsF f d N i) ++ [Value.int .u64 (lo V), Value.int .u64 (hi V)] = ecells (elsF f d N (i + 1)) := by
          rw [elsF_succ, ecells_append, ← hel.out]
          rfl
        rw [hec] at hW4
        refine ⟨⟨i + 1, c + 1, own2, hAt2.out, by rw [hF3.out], by rw [← hD.out, show c + 1 - (i + 1) = c - i by omega], by rw [hF3.out]; exact hW4.R, hW4.b, hW4.row, hW4.wo⟩, ?_⟩
        have := hmeas.out
        show posF f d N K * N - F2 < posF f d N K * N - F
        exact this
      · have hAt2 := hAt.out.none hlt (nb_far hl hN8 hM.out _).1 hV
        have hic := hAt.out.up hl hN8 hM.out
        have hTk := rtake_none f (chk d N c) A2 N cap2 (chk_len _ _ _) hN8 hN (chk_ok hok.out N c) hRin.out w10 hby (chv d N c) rfl hV
        obtain ⟨D1, hD1⟩ : ∃ D1, D + 1 = D1 := ⟨_, rfl⟩
        have zD : IntKind.i64.wrap ((D : Int) + 1) = (D1 : Int) := wrap_nat (by omega) (by have := hD.out; omega)
        have hDc : c + 1 - i = D1 := by have := hD.out; omega
        replace hTk := Lib.hid hTk
        replace hAt2 := Lib.hid hAt2
        replace hR10 := Lib.hid hR10
        replace hw10 := Lib.hid hw10
        replace hb11 := Lib.hid hb11
        replace hwo10 := Lib.hid hwo10
        replace hD1 := Lib.hid hD1
        replace hDc := Lib.hid hDc
        clear hV hby hic
        go_wp2_with fail
        refine call_then hTk.out ?_
        intro w11 hb12
        have hW := (⟨hR10.out, hb11.out, hw10.out, hwo10.out⟩ : Want w6 w10 sz lb lc own2 d A cc F2 _ _ _).below hb12
        clear hTk hR10 hw10 hb11 hb12 hwo10
        replace hW := Lib.hid hW
        go_upto_region 14 with (fail)
        refine name_wp (fun w12 => Below w11.heap.size w11 w12) ((Below.refl _ _).alloc (Nat.le_refl _) _) ?_
        intro w12 hb12
        replace hW := Lib.hid (hW.out.below hb12)
        generalize w11.heap.size = p at *
        clear hb12
        go_wp2_with fail
        refine call_then (hS.out _) ?_
        intro w13 hb13
        replace hW := Lib.hid (hW.out.below hb13)
        clear hb13
        go_wp2
        have hW4 := hW.out
        refine ⟨⟨i, c + 1, own2, hAt2.out, by rw [hF3.out], by rw [hDc.out], by rw [hF3.out]; exact hW4.R, hW4.b, hW4.row, hW4.wo⟩, ?_⟩
        have := hmeas.out
        show posF f d N K * N - F2 < posF f d N K * N - F
        exact this
    · obtain rfl : i = K := by have := hAt.iK; omega
      have hcK := hAt.en rfl
      subst hcK
      have b3 : decide ((i : Int) < (i : Int)) = false := by simp
      have hb' : Below w6.heap.size w6 wr := by rw [hsz.out]; exact hb
      have hr9 : Row wr g (elsF f d N i) := hr6.out.up hb'
      have hsx9 : Strm wr x1 s1 qT (posF f d N i * N) (posF f d N i - i) := keeps hb' hsx.out
      have hEA : ElemsAt wr wa (elsF f d N i) := by
        obtain ⟨-, h | ⟨g2, c2, h, -, -, h2, -⟩⟩ := owns_elemsB hw
        · have h0 := h.1
          subst h0
          intro k hk
          cases hk
        · cases h
          exact h2
      have hRS := rsame_eq (elsF f d N i) (some ⟨g, 0, none⟩) wa i wc (by rw [elsF_len]; omega) wr hr9.elems hEA
      rw [elsF_len] at hRS
      obtain ⟨SK, hSK⟩ : ∃ SK, posF f d N i - i = SK := ⟨_, rfl⟩
      rw [hSK] at hsx9 ⊢
      have hb9 := below_next hb6.out hb6.out.size hb'
      replace hRS := Lib.hid hRS
      replace hsx9 := Lib.hid hsx9
      replace hb9 := Lib.hid hb9
      clear hAt hR hw hwo hb' hr9 hEA hb hsx hr6 hsz
      go_wp2_with fail
      refine call_then hRS.out ?_
      intro w9 hb10
      have hsk := Lib.hid (skip_ok (w := w9) (keeps hb10 hsx9.out))
      replace hb9 := Lib.hid (below_next hb9.out hb9.out.size hb10)
      clear hb10 hsx9 hRS
      go_wp2_with fail
      refine hsk.out.mono ?_
      rintro e w10 ⟨rfl, rfl⟩
      go_wp2
      go_ret
      exact ⟨rfl, hb9.out⟩
end Go.Proofs.YtfklkplnbmhddaaDoor
