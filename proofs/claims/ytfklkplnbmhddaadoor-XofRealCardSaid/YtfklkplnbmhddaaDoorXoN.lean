/-
  XofReal: its walk.
-/
import Derived.Test.YtfklkplnbmhddaaDoorXoM
import Derived.Deep.RegionWith
namespace Go.Proofs.YtfklkplnbmhddaaDoor
open Go.RowKit Flow Go.Maps
set_option linter.unusedVariables false
set_option linter.unusedSimpArgs false

theorem news_cut {w : World} {base n c k : Nat} {a : Option Addr} {H : Nat → Nat} (h : w.ownsRow base 5 1 (.slice a n c) n (arr8 H n)) (hk : k ≤ n) (hk0 : 0 < k) : News w a k c 1 (arr8 H k) ∧ k ≤ c := by
  rcases h.2 with ⟨e, h0⟩ | ⟨g, cap, cur, e, _, _, hc, _⟩
  · omega
  · cases e
    refine ⟨⟨by rw [arr8_len, Nat.mul_one], fun ha => (by cases ha), fun ad ha j u hj => ?_⟩, by omega⟩
    cases ha
    have hj' : j < k := by have := (List.getElem?_eq_some_iff.1 hj).1; simpa [arr8_len] using this
    refine h.cells (g := g) rfl j u ?_
    rw [arr8_get H (by omega)]
    rw [arr8_get H hj'] at hj
    exact hj
theorem put_none' (a : Act) (v : Value) : a.put none v = a := rfl
def zero22 : List Value := [.string ⟨#[]⟩, .int .u16 0, .int .u8 0, .int .u8 0, .int .u8 0, .int .u8 0, .int .u8 0, .int .u8 0, .int .u8 0, .int .u8 0, .int .u8 0, .int .u8 0, .int .u8 0, .int .u8 0, .int .u8 0, .int .u8 0, .int .u8 0, .int .u8 0, .slice none 0 0, .int .u8 0, .int .i64 0, .bool false]
set_option maxRecDepth 20000 in
set_option maxHeartbeats 16000000 in
theorem real_walk (A : Option Addr) (N c : Nat) (ts : List Ask07) (hN : ts.length = N) (hNm : N ≤ maxLen) (w : World) (hT : Tabs w) (hA : Asks w A ts) :
    Calls Tryd.prog 3 #[.slice A N c] w fun e w' => e = .returned (.bool true) ∧ Below w.heap.size w w' := by
  have hAw := Lib.hid (awake_ok w)
  have hT2 := hT.two
  replace hT := Lib.hid hT
  replace hA := Lib.hid hA
  replace hN := Lib.hid hN
  replace hT2 := Lib.hid hT2
  obtain ⟨NI, hNI⟩ : ∃ NI : Int, NI = (N : Int) := ⟨_, rfl⟩
  have hN63 : N ≤ 9223372036854775807 := hNm
  replace hN63 := Lib.hid hN63
  clear hNm hNI NI
  go_enter Tryd.func3, Tryd.ntmps3
  go_wp2_with fail
  refine call_then hAw.out ?_
  intro w1 hb1
  clear hAw
  go_wp2_with fail
  refine (real_ok w1).mono ?_
  rintro e w2 ⟨rfl, rfl⟩
  have hRl : Rel (w1.alloc (.cells #[.map none, .slice none 0 0, .slice none 0 0, .int .i64 0] 69 (0, 0))) w1.heap.size := alloc_at rfl
  have hb := hb1.alloc hb1.size (.cells #[.map none, .slice none 0 0, .slice none 0 0, .int .i64 0] 69 (0, 0))
  have hsl := hb1.size
  generalize (w1.alloc (.cells #[.map none, .slice none 0 0, .slice none 0 0, .int .i64 0] 69 (0, 0))) = w2 at *
  generalize w1.heap.size = s at *
  clear hb1 w1
  replace hsl := Lib.hid hsl
  go_wp2
  go_loopw [18] (fun i wr => ∃ k : Nat, k ≤ N ∧ i = .int .i64 (k : Int) ∧ Below w.heap.size w wr ∧ Rel wr s) (fun i _ => N - (intOf i).toNat)
  case atStart => exact ⟨0, by omega, rfl, hb, hRl⟩
  case round =>
    clear hb hRl
    obtain ⟨k, hk, rfl, hb, hRl⟩ := hrel
    by_cases hlt : k < N
    · have k0 : (0 : Int) ≤ (k : Int) := by omega
      have k1 : (k : Int) < (N : Int) := by omega
      have hkl : k < ts.length := by rw [hN.out]; exact hlt
      obtain ⟨ab, ao, rfl, hat⟩ := hA.out.at' k hkl
      have hok := hA.out.ok _ (List.getElem_mem hkl)
      generalize ts[k] = x at *
      have hlen := x.len hok
      have hone := x.one
      have hat1 : wr.rangeAt ab (ao + k * 22) x.cells := fun j v hj => (hb.cell (World.block_lt_of_cell? _ _ (hat j v hj))).trans (hat j v hj)
      clear hat
      replace hone := Lib.hid hone
      replace hok := Lib.hid hok
      replace hkl := Lib.hid hkl
      have hi22 : ((Tryd.prog).info? 31).map (·.size) = some x.cells.length := by rw [hlen]; kernel_rfl
      have hl22 : zero22.length = x.cells.length := by rw [hlen]; rfl
      have hks : (wr.alloc (.cells zero22.toArray 31 (0, 0))).heap[wr.heap.size]? = some (.cells zero22.toArray 31 (0, 0)) := alloc_at rfl
      replace hi22 := Lib.hid hi22
      replace hl22 := Lib.hid hl22
      clear hlen
      go_upto_region 7 with (first
        | (refine list_load_mid _ _ _ _ _ _ rfl rfl rfl hat1 Tryd.underlying31 rfl hi22.out ?_)
        | (refine list_store_whole _ _ _ _ x.cells zero22 31 rfl rfl rfl rfl hks hl22.out hi22.out hone.out ?_; intro w6 hbut kz))
      have hsr : Rel w6 s := (hbut.block s (by have := lt_of_get hRl; simp; omega) (Nat.ne_of_lt (lt_of_get hRl))).trans (alloc_keeps hRl)
      have hb6 : Below w.heap.size w w6 := hbut.below (hb.alloc hb.size _) hb.size (by have := hb.size; simp; omega)
      obtain ⟨q0, q1, q18, q20, qs⟩ := ask_cells kz hok.out.s0
      have hpz := hb.size
      generalize wr.heap.size = p at *
      clear hat1 hks hi22 hl22 hbut hone hRl hb
      replace hsr := Lib.hid hsr
      by_cases hx1 : 10 < k
      · have b1 : decide (10 < k) = true := by simpa using hx1
        have hb := hb6
        have hRl := hsr.out
        go_upto_region 20 with (fail)
        have hAk := Lib.hid (asked_ok (hRl))
        go_wp2_with fail
        refine hAk.out.mono ?_
        rintro e w9 ⟨rfl, hb9⟩
        clear hAk
        replace hb9 := Lib.hid (below_next hb hb.size hb9)
        go_wp2
        go_ret
        exact ⟨rfl, hb9.out⟩
      have b1 : decide ((10 : Int) < (k : Int)) = false := by rw [decide_eq_false_iff_not]; omega
      by_cases hx2 : 300 < x.bs.length
      · have b2 : decide ((300 : Int) < (x.bs.length : Int)) = true := by rw [decide_eq_true_eq]; omega
        have hb := hb6
        have hRl := hsr.out
        go_upto_region 20 with (fail)
        have hAk := Lib.hid (asked_ok (hRl))
        go_wp2_with fail
        refine hAk.out.mono ?_
        rintro e w9 ⟨rfl, hb9⟩
        clear hAk
        replace hb9 := Lib.hid (below_next hb hb.size hb9)
        go_wp2
        go_ret
        exact ⟨rfl, hb9.out⟩
      have b2 : decide ((300 : Int) < (x.bs.length : Int)) = false := by rw [decide_eq_false_iff_not]; omega
      by_cases hx3 : 300 < x.tag.size
      · have b3 : decide ((300 : Int) < (x.tag.size : Int)) = true := by rw [decide_eq_true_eq]; omega
        have hb := hb6
        have hRl := hsr.out
        go_upto_region 20 with (fail)
        have hAk := Lib.hid (asked_ok (hRl))
        go_wp2_with fail
        refine hAk.out.mono ?_
        rintro e w9 ⟨rfl, hb9⟩
        clear hAk
        replace hb9 := Lib.hid (below_next hb hb.size hb9)
        go_wp2
        go_ret
        exact ⟨rfl, hb9.out⟩
      have b3 : decide ((300 : Int) < (x.tag.size : Int)) = false := by rw [decide_eq_false_iff_not]; omega
      have hi16 : ((Tryd.prog).info? 28).map (·.size) = some (x.sd.map (Value.int .u8)).length := by rw [List.length_map, hok.out.s0]; kernel_rfl
      replace hi16 := Lib.hid hi16
      by_cases hx4 : 255 < x.tag.size
      · have b4 : decide ((255 : Int) < (x.tag.size : Int)) = true := by rw [decide_eq_true_eq]; omega
        have hSt := Lib.hid (stream_long s x.tag x.use x.sd x.A x.bs.length x.c hx4)
        replace hb6 := Lib.hid hb6
        replace kz := Lib.hid kz
        go_wp2_with (refine list_load_mid _ _ _ _ _ _ rfl rfl rfl qs Tryd.underlying28 rfl hi16.out ?_)
        refine (hSt.out _).mono ?_
        rintro e w7 ⟨rfl, hb7⟩
        obtain ⟨q0, q1, q18, q20, qs⟩ := ask_cells (keeps hb7 kz.out) hok.out.s0
        have hsr7 : Rel w7 s := keeps hb7 hsr.out
        have hb := below_next hb6.out hb6.out.size hb7
        clear hSt hb7
        go_wp2
        exact ⟨⟨k + 1, by omega, by go_num, hb, hsr7⟩, left_u (by assumption)⟩
      have b4 : decide ((255 : Int) < (x.tag.size : Int)) = false := by rw [decide_eq_false_iff_not]; omega
      have hqok := qu_ok x.tag x.use x.sd x.bs (by omega) hok.out.u0.1 hok.out.u0.2 hok.out.s1 hok.out.hb
      have hSt := Lib.hid (hstream_ok hsr.out (hT.out.up hb6) x.tag x.use x.sd x.A x.c x.bs (by omega) hok.out.u0.1 hok.out.u0.2 hok.out.s0 (by omega) (hok.out.hB.up hb6) hqok)
      replace hb6 := Lib.hid hb6
      replace kz := Lib.hid kz
      replace hqok := Lib.hid hqok
      replace hx2 := Lib.hid hx2
      replace hx4 := Lib.hid hx4
      go_wp2_with (refine list_load_mid _ _ _ _ _ _ rfl rfl rfl qs Tryd.underlying28 rfl hi16.out ?_)
      refine hSt.out.mono ?_
      rintro e w7 ⟨xs, kb, rfl, hb7, hst7, hxl, hkl⟩
      have kz7 := keeps hb7 kz.out
      have hsr7 : Rel w7 s := keeps hb7 hsr.out
      have hpl := lt_of_get kz.out
      have hsl6 := Lib.hid (lt_of_get hsr.out)
      have hkw := Lib.hid (Nat.le_trans hb6.out.size hkl)
      obtain ⟨q0, q1, q18, q20, qs⟩ := ask_cells kz7 hok.out.s0
      have hb := below_next hb6.out hb6.out.size hb7
      have hT7 := hT.out.up hb
      obtain ⟨U, hU⟩ : ∃ U, IntKind.u64.wrap x.n = U := ⟨_, rfl⟩
      have hU0 : 0 ≤ U ∧ U < 18446744073709551616 := by rw [← hU, IntKind.wrap_u64]; omega
      obtain ⟨M, hM⟩ : ∃ M : Nat, U.tmod 300 = (M : Int) := ⟨(U % 300).toNat, by rw [Int.tmod_eq_emod_of_nonneg hU0.1]; omega⟩
      have hM3 : M < 300 := by rw [Int.tmod_eq_emod_of_nonneg hU0.1] at hM; omega
      have hMw : IntKind.i64.wrap (M : Int) = (M : Int) := wrap_nat rfl (by omega)
      have hkb : 1 < kb := by have := hT2.out; have := hb6.out.size; omega
      have hNx := Lib.hid (hnext_ok hst7 hT7 hkb M (by omega))
      generalize hS0 : taken1 (qu x.tag x.use x.sd x.bs) = S0 at *
      replace hS0 := Lib.hid hS0
      replace hU0 := Lib.hid hU0
      replace hb := Lib.hid hb
      replace hT7 := Lib.hid hT7
      replace kz7 := Lib.hid kz7
      replace hsr7 := Lib.hid hsr7
      replace hpl := Lib.hid hpl
      replace hkl := Lib.hid hkl
      have hkl7 := Lib.hid (hst7.hk.lt)
      replace hkb := Lib.hid hkb
      clear hSt hb7 hst7 hxl hb6 hsr kz
      go_wp2_with fail
      refine hNx.out.mono ?_
      rintro e w8 ⟨gb1, rfl, hbu8, hg8, ho8, hst8⟩
      have hT8 := hT7.out.but hbu8 hkb.out
      have hNy := Lib.hid (hnext_ok hst8 hT8 hkb.out 20 (by decide))
      have hpk : p ≠ kb := by have := hpl.out; have := hkl.out; omega
      have hsk : s ≠ kb := by have := hsl6.out; have := hkl.out; omega
      have kz8 : w8.heap[p]? = _ := (hbu8.block p (lt_of_get kz7.out) hpk).trans kz7.out
      have hsr8 : Rel w8 s := (hbu8.block s (lt_of_get hsr7.out) hsk).trans hsr7.out
      have hb8 := hbu8.below hb.out hkw.out hb.out.size
      have hgk : gb1 ≠ kb := by have := hkl7.out; omega
      have hgp : p < gb1 := by have := lt_of_get kz7.out; omega
      have hgs : s < gb1 := by have := lt_of_get hsr7.out; omega
      have hgw : w.heap.size ≤ gb1 := Nat.le_trans hb.out.size hg8
      replace kz8 := Lib.hid kz8
      replace hsr8 := Lib.hid hsr8
      replace hb8 := Lib.hid hb8
      replace hT8 := Lib.hid hT8
      replace hgk := Lib.hid hgk
      replace hgp := Lib.hid hgp
      replace hgs := Lib.hid hgs
      replace hgw := Lib.hid hgw
      replace hpk := Lib.hid hpk
      replace hsk := Lib.hid hsk
      clear hNx kz7 hsr7 hT7 hbu8 hg8 hst8 q0 q1 q18 q20 qs
      go_wp2_with fail
      refine hNy.out.mono ?_
      rintro e w9 ⟨gb2, rfl, hbu9, hg9, ho9, hst9⟩
      have kz9 : w9.heap[p]? = _ := (hbu9.block p (lt_of_get kz8.out) hpk.out).trans kz8.out
      have hsr9 : Rel w9 s := (hbu9.block s (lt_of_get hsr8.out) hsk.out).trans hsr8.out
      have hb9 := hbu9.below hb8.out hkw.out hb8.out.size
      have hown9 := owns_oct (ho8.but hbu9 hgk.out) hgw.out (by omega)
      have hnw9 := news_blk ho9 20
      rw [arr8_len] at hnw9
      have t1 : M + 20 ≤ maxLen := by unfold maxLen; omega
      have t2 : (M + 20) * 1 ≤ 140737488355328 := by omega
      have t3 := hb9.size
      obtain ⟨i0, hinf, hz0, hz1, hz2⟩ := info_parts info_byte
      replace kz9 := Lib.hid kz9
      replace hsr9 := Lib.hid hsr9
      replace hb9 := Lib.hid hb9
      replace hnw9 := Lib.hid hnw9
      clear hNy kz8 hsr8 hb8 hT8 hbu9 hg9 hst9 ho8 hb
      go_upto_region 15 with (at_builtin; go_loud (refine wpList_append_wh rfl _ _ 29 rfl w.heap.size 5 i0 (.int .u8 0) 1 1 Tryd.underlying29 hinf hz0 hz1 hz2 rfl (by decide) _ _ _ rfl hown9 _ _ _ _ rfl hnw9.out (arr8_one _ _) t1 t2 t3 ?_); intro v10 w10 hown10 hg10 hwh10)
      have kz10 : w10.heap[p]? = _ := (hg10.block p (lt_of_get kz9.out) (fun e => by have := hgp.out; have e2 : p = gb1 := Option.some.inj e; omega)).trans kz9.out
      have hsr10 : Rel w10 s := (hg10.block s (lt_of_get hsr9.out) (fun e => by have := hgs.out; have e2 : s = gb1 := Option.some.inj e; omega)).trans hsr9.out
      have hb10 := hb9.out.grown hg10 t3 (fun g hg => by have := hgw.out; have e2 : gb1 = g := Option.some.inj hg; omega)
      have hrow : arr8 (sqB (give S0 false)) M ++ arr8 (sqB (give (sqS (give S0 false) M) true)) 20 = arr8 (sqB (give S0 false)) (M + 20) := by
        show _ ++ arr8 (sqB (sqS (give S0 false) M)) 20 = _
        rw [sqB_add, arr8_add]
      rw [hrow] at hown10
      obtain ⟨q0, q1, q18, q20, qs⟩ := ask_cells kz10 hok.out.s0
      obtain ⟨M2, hM2⟩ : ∃ M2, M + 20 = M2 := ⟨_, rfl⟩
      rw [hM2] at hown10
      have hQl := qu_len x.tag x.use x.sd x.bs
      have hHe : hashP 1 ((qu x.tag x.use x.sd x.bs).map Int.toNat) = sqB (give S0 false) := by rw [← hS0.out]; rfl
      have hSd : sqB (give (taken1 (qu x.tag x.use x.sd x.bs)) false) = sqB (give S0 false) := by rw [hS0.out]
      have hQ := Lib.hid (refq_ok x.tag x.use x.sd x.A x.c x.bs (by have := hx4.out; omega) hok.out.u0.1 hok.out.u0.2 hok.out.s0 hok.out.s1 (by have := hx2.out; omega) w10 (hok.out.hB.up hb10))
      generalize hH : sqB (give S0 false) = H at *
      have u0 := hok.out.u0.1
      have u1 := hok.out.u0.2
      replace hHe := Lib.hid hHe
      replace hSd := Lib.hid hSd
      replace hown10 := Lib.hid hown10
      replace kz10 := Lib.hid kz10
      replace hsr10 := Lib.hid hsr10
      replace hb10 := Lib.hid hb10
      replace hQl := Lib.hid hQl
      replace hM2 := Lib.hid hM2
      replace hH := Lib.hid hH
      clear hown9 hnw9 t1 t2 t3 hg10 hwh10 kz9 hsr9 hb9 hrow ho9
      have z20 : IntKind.i64.wrap ((M : Int) + 20) = (M2 : Int) := by have := hM2.out; exact wrap_nat (by omega) (by omega)
      go_wp2_with (refine list_load_mid _ _ _ _ _ _ rfl rfl rfl qs Tryd.underlying28 rfl hi16.out ?_)
      refine hQ.out.mono ?_
      rintro e w11 ⟨gq, cq, rfl, hbq, hownq⟩
      obtain ⟨Q, hQe⟩ : ∃ Q, qu x.tag x.use x.sd x.bs = Q := ⟨_, rfl⟩
      rw [hQe] at hownq hHe hqok hQl hSd ⊢
      have hcq : Q.length ≤ cq := by
        rcases hownq.2 with ⟨e, _⟩ | ⟨g, cap, cur, e, _, _, hc, _⟩
        · cases e
        · cases e; exact hc
      have hBq := bys_own (b := w11.heap.size) hownq hqok.out (fun g' hg' => (by cases hg'; exact Nat.ne_of_lt (hownq.lt _ rfl).2))
      have hns : ∀ x, x ∈ Q.map Int.toNat → x < 256 := fun x hx => by
        obtain ⟨y, hy, rfl⟩ := List.mem_map.1 hx
        have := hqok.out y hy
        omega
      have hHh := refHash_any 1 (by decide) (some ⟨gq, 0, none⟩) cq (Q.map Int.toNat) hns (by rw [List.length_map]; exact hcq) (by rw [List.length_map, hQl.out]; have := hx2.out; have := hx4.out; have := hok.out.s0; omega) M2 (by have := hM2.out; omega) w11 hBq
      rw [List.length_map, hHe.out] at hHh
      have hown11 := owns_up hown10.out hbq
      have kz11 := keeps hbq kz10.out
      have hsr11 : Rel w11 s := keeps hbq hsr10.out
      have hb11 := below_next hb10.out hb10.out.size hbq
      replace hHh := Lib.hid hHh
      replace hown11 := Lib.hid hown11
      replace kz11 := Lib.hid kz11
      replace hsr11 := Lib.hid hsr11
      replace hb11 := Lib.hid hb11
      replace hQe := Lib.hid hQe
      clear hQ hown10 kz10 hsr10 hb10 hcq hBq hns hownq hbq hHe hQl q0 q1 q18 q20 qs
      go_wp2_with fail
      refine hHh.out.mono ?_
      rintro e w12 ⟨a12, c12, rfl, hown12, hb12⟩
      have hrow12 := owns_up hown11.out hb12
      have kz12 := keeps hb12 kz11.out
      have hsr12 : Rel w12 s := keeps hb12 hsr11.out
      have hbb := below_next hb11.out hb11.out.size hb12
      obtain ⟨q0, q1, q18, q20, qs⟩ := ask_cells kz12 hok.out.s0
      have hSe := oseed_ok hsr12 (hT.out.up hbb) x.tag x.use x.sd x.A x.c x.bs (by have := hx4.out; omega) hok.out.u0.1 hok.out.u0.2 hok.out.s0 (by have := hx2.out; omega) (hok.out.hB.up hbb) (by rw [hQe.out]; exact hqok.out)
      rw [hQe.out, hSd.out] at hSe
      replace hSe := Lib.hid hSe
      replace hown12 := Lib.hid (owns_base hown12 (Nat.zero_le _))
      replace hrow12 := Lib.hid (owns_base hrow12 (Nat.zero_le _))
      replace hsr12 := Lib.hid hsr12
      replace hbb := Lib.hid hbb
      clear hHh hown11 kz11 hsr11 hb11 hb12 hqok hSd hQe kz12
      go_wp2_with (refine list_load_mid _ _ _ _ _ _ rfl rfl rfl qs Tryd.underlying28 rfl hi16.out ?_)
      refine hSe.out.mono ?_
      rintro e w13 ⟨rfl, hb13⟩
      have hrow13 := owns_up hrow12.out hb13
      have hown13 := owns_up hown12.out hb13
      have hsr13 : Rel w13 s := keeps hb13 hsr12.out
      have hb14 := below_next hbb.out hbb.out.size hb13
      have hks16 : (w13.alloc (.cells zero16.toArray 28 (0, 0))).heap[w13.heap.size]? = some (.cells zero16.toArray 28 (0, 0)) := alloc_at rfl
      have hml := Lib.hid (arr8_len H 16)
      have hiS : ((Tryd.prog).info? 28).map (·.size) = some (arr8 H 16).length := by rw [hml.out]; kernel_rfl
      have hone16 := Lib.hid (arr8_one H 16)
      replace hiS := Lib.hid hiS
      replace hrow13 := Lib.hid hrow13
      replace hown13 := Lib.hid hown13
      replace hsr13 := Lib.hid hsr13
      replace hb14 := Lib.hid hb14
      clear hSe hb13 hrow12 hown12 hsr12 hbb q0 q1 q18 q20 qs
      go_upto_region 17 with (refine list_store_whole _ _ _ _ (arr8 H 16) zero16 28 rfl rfl rfl rfl hks16 (by rw [hml.out]; rfl) hiS.out hone16.out ?_; intro w14 hbut kz14)
      have hlt14 : ∀ g, g < w13.heap.size → w14.heap[g]? = w13.heap[g]? := fun g hg => (hbut.block g (by simp; omega) (Nat.ne_of_lt hg)).trans (((Below.refl w13.heap.size w13).alloc (Nat.le_refl _) _).block g hg)
      have hrow14 := row_keep hrow13.out fun g hg => hlt14 g (hrow13.out.lt g hg).2
      have hown14 := row_keep hown13.out fun g hg => hlt14 g (hown13.out.lt g hg).2
      have hsr14 : Rel w14 s := (hlt14 s (lt_of_get hsr13.out)).trans hsr13.out
      have hb15 : Below w.heap.size w w14 := hbut.below (hb14.out.alloc hb14.out.size _) hb14.out.size (by have := hb14.out.size; simp; omega)
      have hM16 : 16 ≤ M2 := by have := hM2.out; omega
      obtain ⟨hnew, hc16⟩ := news_cut hown14 hM16 (by decide)
      have hc16i : (16 : Int) ≤ (c12 : Int) := by omega
      have hnewS : News w14 (some ⟨w13.heap.size, 0, none⟩) 16 16 1 (arr8 H 16) := by
        have := news_blk kz14 16
        rw [hml.out] at this
        exact this
      generalize w13.heap.size = ps at *
      replace hsr14 := Lib.hid hsr14
      replace hb15 := Lib.hid hb15
      clear hrow13 hown13 hsr13 hb14 hks16 hml hiS hone16 hbut kz14 hlt14
      have z20 : IntKind.i64.wrap ((M : Int) + 20) = (M2 : Int) := by have := hM2.out; exact wrap_nat (by omega) (by omega)
      have b16 : decide ((16 : Int) ≤ (M2 : Int)) = true := by rw [decide_eq_true_eq]; omega
      replace hrow14 := Lib.hid hrow14
      replace hown14 := Lib.hid hown14
      replace hnew := Lib.hid hnew
      replace hnewS := Lib.hid hnewS
      rw [put_none']
      refine seg_start 18 (by kernel_rfl) (by decide) ?_
      intro v0 hv0
      refine seg_batch 0 [0, 1, 2, 3, 4, 5, 6, 7, 8, 9, 10, 11, 12, 13, 14, 15, 16, 17] (by kernel_rfl) rfl (by kernel_rfl) (by kernel_rfl) (by kernel_rfl) ?_
      apply Exists.intro
      refine ⟨fun ι _ φ hφ => ?_, fun v1 hv1 => ?_⟩
      · have f1 := fun i => conv_own ((owns_up (owns_up hrow14.out hv0) (hφ.old i)))
        have f2 := fun i => conv_own ((owns_up (owns_up hown14.out hv0) (hφ.old i)))
        have f3 := fun i => conv_news ((hnew.out.up hv0).up (hφ.old i))
        have f4 := fun i => conv_news ((hnewS.out.up hv0).up (hφ.old i))
        iterate 18 (refine pick_step rfl ?_; go_big_quiet_step (fail))
        exact pick_end
      refine seg_done rfl (by kernel_rfl) ?_
      intro v2 hv2
      replace hv0 := below_chain (below_chain hv0 hv1) hv2
      have hsrF : Rel v2 s := keeps hv0 hsr14.out
      have hbF := below_next hb15.out hb15.out.size hv0
      clear hv0 hv1 hv2
      go_wp2
      exact ⟨⟨k + 1, by omega, by go_num, hbF, hsrF⟩, left_u (by assumption)⟩
    · obtain rfl : k = N := by omega
      have b0 : decide (k < k) = false := by simp
      have hAk := Lib.hid (asked_ok (hRl))
      go_wp2_with fail
      refine hAk.out.mono ?_
      rintro e w9 ⟨rfl, hb9⟩
      clear hAk
      replace hb9 := Lib.hid (below_next hb hb.size hb9)
      go_wp2
      go_ret
      exact ⟨rfl, hb9.out⟩
end Go.Proofs.YtfklkplnbmhddaaDoor
