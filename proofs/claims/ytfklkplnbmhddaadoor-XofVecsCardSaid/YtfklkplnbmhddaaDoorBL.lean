import Derived.Test.YtfklkplnbmhddaaDoorBK
/-
  A round, as it is meant.
-/
namespace Go.Proofs.YtfklkplnbmhddaaDoor
open Go.RowKit Flow
set_option linter.unusedVariables false
set_option linter.unusedSimpArgs false

def zero : Nat → Nat := fun _ => 0
theorem res_cell1 {P : Program} {fn : Func} {tmps : Array Value} {w : World} {a : Nat} {t : TypeId} {b : Nat} {v : Value} (hr : fn.results = #[.cell a t]) (ha : tmps.getD a undef = .pointer (some ⟨b, 0, none⟩))
    (h : (loadVar t ⟨b, 0, none⟩).run P w = .ok v w) : (results fn tmps).run P w = .ok v w := by
  rw [Array.getD_eq_getD_getElem?] at ha
  simp [results, hr, asAddr, ha, h]
theorem bR_lim {a : Nat → Nat} (h : Lim a) : ∀ t, Lim (bR a t)
  | 0 => h
  | t + 1 => upd_lim (bR_lim h t) (rl_lt _ _ (by omega) (h _ (by have := way_lt t; omega)))
theorem mR_lim {b : Nat → Nat} (h : Lim b) : ∀ j, j ≤ 25 → Lim (mR b j)
  | 0, _ => fun i _ => by simp [mR]
  | j + 1, hj => upd_lim (mR_lim h j (by omega)) (h j (by omega))
theorem oR_lim {m : Nat → Nat} (h : Lim m) : ∀ j, j ≤ 25 → Lim (oR m j)
  | 0, _ => fun i _ => by simp [oR]
  | j + 1, hj => upd_lim (oR_lim h j (by omega)) (xor_lim (h j (by omega)) (an_lim (h _ (by omega))))
theorem wrap_nat {z : Int} {n : Nat} (h : z = (n : Int)) (hn : n < 9223372036854775808) : IntKind.i64.wrap z = (n : Int) := by
  subst h
  simp only [IntKind.wrap_i64]
  omega
theorem tr_lt {x y : Nat} (hx : x < 5) (hy : y < 5) : tr (5 * x + y) = x + 5 * y ∧ x + 5 * y < 25 ∧ 5 * x + y < 25 := by unfold tr; omega
theorem aR_lim {a : Nat → Nat} (h : Lim a) : Lim (aR a) ∧ ∀ x, x < 5 → cR a x < 18446744073709551616 := by
  have hc : ∀ x, x < 5 → cR a x < 18446744073709551616 := fun x hx => xor_lim (xor_lim (xor_lim (xor_lim (h _ (by omega)) (h _ (by omega))) (h _ (by omega))) (h _ (by omega))) (h _ (by omega))
  exact ⟨fun i hi => xor_lim (xor_lim (h i hi) (hc _ (by omega))) (rl_lt _ _ (by decide) (hc _ (by omega))), hc⟩
set_option maxRecDepth 100000 in
set_option maxHeartbeats 16000000 in
theorem one_ok (f : Nat → Nat) (hf : Lim f) (k : Nat) (hk : k < 12) (w : World) : Calls Tryd.prog 42 #[.agg (arr f 25).toArray, .int .i64 ((12 + k : Nat) : Int)] w fun e w' => e = .returned (.agg (arr (roundR (constsT.getD k 0) f) 25).toArray) ∧ Below w.heap.size w w' := by
  obtain ⟨r, hr⟩ : ∃ r, 12 + k = r := ⟨_, rfl⟩
  have hC := fun w => const_any k hk w
  rw [hr] at hC ⊢
  obtain ⟨a0, ha0⟩ : ∃ a0 : Nat → Nat, a0 = fun j => f (tr j) := ⟨_, rfl⟩
  have hL0 : Lim a0 := by rw [ha0]; exact fun i hi => hf _ (by unfold tr; omega)
  have hfin : roundR (constsT.getD k 0) f = upd (oR (mR (bR (aR a0) 24) 25) 25) 0 (oR (mR (bR (aR a0) 24) 25) 25 0 ^^^ constsT.getD k 0) := by rw [ha0]; rfl
  rw [hfin]
  replace ha0 := Lib.hid ha0
  replace hC := Lib.hid hC
  replace hf := Lib.hid hf
  replace hL0 := Lib.hid hL0
  replace hr := Lib.hid hr
  replace hk := Lib.hid hk
  clear hfin
  go_enter Tryd.func42, Tryd.ntmps42
  go_upto_region 2 with (fail)
  refine name_wp (fun w1 => Below w.heap.size w w1 ∧ Nums w1 w.heap.size 79 25 f ∧ Nums w1 (w.heap.size + 1) 79 25 zero ∧ Nums w1 (w.heap.size + 1 + 1) 100 25 (part a0 zero (5 * 0)))
    ⟨(((Below.refl _ _).alloc (Nat.le_refl _) _).alloc (by simp) _).alloc (by simp; omega) _, alloc_keeps (alloc_keeps (alloc_at rfl)), alloc_keeps (alloc_at (by simp)), alloc_at (by simp)⟩ ?_
  rintro w1 ⟨hb, hs, hz, ha⟩
  go_wp2
  go_loopw [6] (fun i wr => ∃ x : Nat, x ≤ 5 ∧ i = .int .i64 (x : Int) ∧ Below w.heap.size w wr ∧ Nums wr w.heap.size 79 25 f ∧ Nums wr (w.heap.size + 1) 79 25 zero ∧ Nums wr (w.heap.size + 1 + 1) 100 25 (part a0 zero (5 * x))) (fun i _ => 5 - (intOf i).toNat)
  case atStart => exact ⟨0, by omega, rfl, hb, hs, hz, ha⟩
  case round =>
    clear hb hs hz ha
    obtain ⟨x, hx, rfl, hb, hs, hz, ha⟩ := hrel
    by_cases hxl : x < 5
    · have x0 : (0 : Int) ≤ (x : Int) := by omega
      have x1 : (x : Int) < 5 := by omega
      go_wp2
      go_loopw [7] (fun i wr => ∃ y : Nat, y ≤ 5 ∧ i = .int .i64 (y : Int) ∧ Below w.heap.size w wr ∧ Nums wr w.heap.size 79 25 f ∧ Nums wr (w.heap.size + 1) 79 25 zero ∧ Nums wr (w.heap.size + 1 + 1) 100 25 (part a0 zero (5 * x + y))) (fun i _ => 5 - (intOf i).toNat)
      case atStart => exact ⟨0, by omega, rfl, hb, hs, hz, ha⟩
      case round =>
        clear hb hs hz ha
        obtain ⟨y, hy, rfl, hb, hs, hz, ha⟩ := hrel
        by_cases hyl : y < 5
        · have y0 : (0 : Int) ≤ (y : Int) := by omega
          have y1 : (y : Int) < 5 := by omega
          obtain ⟨e1, e2, e3⟩ := tr_lt hxl hyl
          obtain ⟨Y5, hY⟩ : ∃ Y5, 5 * y = Y5 := ⟨_, rfl⟩
          obtain ⟨D, hD⟩ : ∃ D, x + Y5 = D := ⟨_, rfl⟩
          have zY : IntKind.i64.wrap (5 * (y : Int)) = (Y5 : Int) := by simp only [IntKind.wrap_i64]; omega
          have zD : IntKind.i64.wrap ((x : Int) + (Y5 : Int)) = (D : Int) := by simp only [IntKind.wrap_i64]; omega
          have d0 : (0 : Int) ≤ (D : Int) := by omega
          have d1 : (D : Int) < 25 := by omega
          have hval : f D = a0 (5 * x + y) := by
            rw [ha0.out]
            show f D = f (tr (5 * x + y))
            rw [e1, ← hD, ← hY]
          have c0 := hs.cell (show D < 25 by omega)
          rw [hval] at c0
          have hps : upd (part a0 zero (5 * x + y)) (5 * x + y) (a0 (5 * x + y)) = part a0 zero (5 * x + (y + 1)) := funext fun i => part_step _ _ _ _
          have e4 : x * 5 + y = 5 * x + y := by omega
          replace hps := Lib.hid hps
          replace hval := Lib.hid hval
          replace hY := Lib.hid hY
          replace hD := Lib.hid hD
          replace e1 := Lib.hid e1
          replace e4 := Lib.hid e4
          obtain ⟨V, hV⟩ : ∃ V, a0 (5 * x + y) = V := ⟨_, rfl⟩
          rw [hV] at c0
          replace hV := Lib.hid hV
          go_wp2
          refine wp_region_flow1 10 (by kernel_rfl) (by kernel_rfl) (by kernel_rfl) ?_
          apply Exists.intro
          refine ⟨fun ι _ φ hφ => ?_, fun wt hwt => ?_⟩
          · have b0 := hφ.cell c0
            simp only [List.take_succ_cons, List.take_zero]
            repeat (go_big_quiet_step (fail))
            exact wpQuiet_nil rfl
          replace hb := below_next hb hb.size hwt
          replace hs := hs.up hwt
          replace hz := hz.up hwt
          replace ha := ha.up hwt
          have q0 := ha.cell e3
          have q1 : wt.frozen? ⟨w.heap.size + 1 + 1, 5 * x + y, none⟩ = false := ha.free
          rw [← e4.out] at q0 q1
          have hst := ha.set (k := 5 * x + y) V
          rw [← hV.out, hps.out, hV.out, ← e4.out] at hst
          clear hwt zY zD c0
          simp only [List.drop_succ_cons, List.drop_zero]
          go_wp2
          exact ⟨⟨y + 1, by omega, by go_num, hb.setCell (p := ⟨w.heap.size + 1 + 1, x * 5 + y, none⟩) (by show w.heap.size ≤ w.heap.size + 1 + 1; omega) _, hs.far (by omega), hz.far (by omega), hst⟩, left_u (by assumption)⟩
        · obtain rfl : y = 5 := by omega
          go_wp2
          exact ⟨⟨x + 1, by omega, by go_num, hb, hs, hz, ha⟩, left_u (by assumption)⟩
    · obtain rfl : x = 5 := by omega
      replace ha := ha.congr fun i hi => part_all a0 zero hi
      clear hs
      have hpa := ha.lt
      go_upto_region 10 with (fail)
      refine name_wp (fun w2 => Below w.heap.size w w2 ∧ Nums w2 (w.heap.size + 1) 79 25 zero ∧ Nums w2 (w.heap.size + 1 + 1) 100 25 a0 ∧ Nums w2 wr.heap.size 99 5 (part (cR a0) zero 0))
        ⟨hb.alloc hb.size _, alloc_keeps hz, alloc_keeps ha, alloc_at rfl⟩ ?_
      clear hb hz ha
      rintro w2 ⟨hb, hz, ha, hc⟩
      generalize wr.heap.size = pc at *
      clear wr
      obtain ⟨hLa, hLc⟩ := aR_lim hL0.out
      replace hLa := Lib.hid hLa
      replace hLc := Lib.hid hLc
      go_wp2
      go_loopw [9] (fun i wr => ∃ x : Nat, x ≤ 5 ∧ i = .int .i64 (x : Int) ∧ Below w.heap.size w wr ∧ Nums wr (w.heap.size + 1) 79 25 zero ∧ Nums wr (w.heap.size + 1 + 1) 100 25 a0 ∧ Nums wr pc 99 5 (part (cR a0) zero x)) (fun i _ => 5 - (intOf i).toNat)
      case atStart => exact ⟨0, by omega, rfl, hb, hz, ha, hc⟩
      case round =>
        clear hb hz ha hc
        obtain ⟨x, hx, rfl, hb, hz, ha, hc⟩ := hrel
        by_cases hxl : x < 5
        · have x0 : (0 : Int) ≤ (x : Int) := by omega
          have x1 : (x : Int) < 5 := by omega
          have c0 := ha.cell (show x * 5 < 25 by omega)
          have c1 := ha.cell (show x * 5 + 1 < 25 by omega)
          have c2 := ha.cell (show x * 5 + 2 < 25 by omega)
          have c3 := ha.cell (show x * 5 + 3 < 25 by omega)
          have c4 := ha.cell (show x * 5 + 4 < 25 by omega)
          have l0 := hL0.out _ (show x * 5 < 25 by omega)
          have l1 := hL0.out _ (show x * 5 + 1 < 25 by omega)
          have l2 := hL0.out _ (show x * 5 + 2 < 25 by omega)
          have l3 := hL0.out _ (show x * 5 + 3 < 25 by omega)
          have l4 := hL0.out _ (show x * 5 + 4 < 25 by omega)
          have h1 := xor_nat l0 l1
          have h2 := xor_nat (xor_lim l0 l1) l2
          have h3 := xor_nat (xor_lim (xor_lim l0 l1) l2) l3
          have h4 := xor_nat (xor_lim (xor_lim (xor_lim l0 l1) l2) l3) l4
          have hps : upd (part (cR a0) zero x) x (cR a0 x) = part (cR a0) zero (x + 1) := funext fun i => part_step _ _ _ _
          obtain ⟨V, hV⟩ : ∃ V, cR a0 x = V := ⟨_, rfl⟩
          change bits BinOp.xor IntKind.u64 _ _ = ((cR a0 x : Nat) : Int) at h4
          rw [hV] at h4
          replace hV := Lib.hid hV
          replace hps := Lib.hid hps
          clear l0 l1 l2 l3 l4
          generalize a0 (x * 5) = A0 at *
          generalize a0 (x * 5 + 1) = A1 at *
          generalize a0 (x * 5 + 2) = A2 at *
          generalize a0 (x * 5 + 3) = A3 at *
          generalize a0 (x * 5 + 4) = A4 at *
          go_wp2
          refine wp_region_flow1 26 (by kernel_rfl) (by kernel_rfl) (by kernel_rfl) ?_
          apply Exists.intro
          refine ⟨fun ι _ φ hφ => ?_, fun wt hwt => ?_⟩
          · have b0 := hφ.cell c0
            have b1 := hφ.cell c1
            have b2 := hφ.cell c2
            have b3 := hφ.cell c3
            have b4 := hφ.cell c4
            simp only [List.take_succ_cons, List.take_zero]
            repeat (go_big_quiet_step (fail))
            exact wpQuiet_nil rfl
          replace hb := below_next hb hb.size hwt
          replace hz := hz.up hwt
          replace ha := ha.up hwt
          replace hc := hc.up hwt
          have q0 := hc.cell hxl
          have q1 : wt.frozen? ⟨pc, x, none⟩ = false := hc.free
          have hst := hc.set (k := x) V
          rw [← hV.out, hps.out, hV.out] at hst
          clear hwt c0 c1 c2 c3 c4
          simp only [List.drop_succ_cons, List.drop_zero]
          go_wp2
          exact ⟨⟨x + 1, by omega, by go_num, hb.setCell (p := ⟨pc, x, none⟩) (by show w.heap.size ≤ pc; omega) _, hz.far (by omega), ha.far (by omega), hst⟩, left_u (by assumption)⟩
        · obtain rfl : x = 5 := by omega
          replace hc := hc.congr fun i hi => part_all (cR a0) zero hi
          have ha' : Nums wr (w.heap.size + 1 + 1) 100 25 (part (aR a0) a0 (5 * 0)) := ha.congr fun i _ => part_zero _ _ i
          replace ha := ha'
          go_wp2
          go_loopw [10] (fun i wr => ∃ x : Nat, x ≤ 5 ∧ i = .int .i64 (x : Int) ∧ Below w.heap.size w wr ∧ Nums wr (w.heap.size + 1) 79 25 zero ∧ Nums wr pc 99 5 (cR a0) ∧ Nums wr (w.heap.size + 1 + 1) 100 25 (part (aR a0) a0 (5 * x))) (fun i _ => 5 - (intOf i).toNat)
          case atStart => exact ⟨0, by omega, rfl, hb, hz, hc, ha⟩
          case round =>
            clear hb hz hc ha
            obtain ⟨x, hx, rfl, hb, hz, hc, ha⟩ := hrel
            by_cases hxl : x < 5
            · have x0 : (0 : Int) ≤ (x : Int) := by omega
              have x1 : (x : Int) < 5 := by omega
              go_wp2
              go_loopw [11] (fun i wr => ∃ y : Nat, y ≤ 5 ∧ i = .int .i64 (y : Int) ∧ Below w.heap.size w wr ∧ Nums wr (w.heap.size + 1) 79 25 zero ∧ Nums wr pc 99 5 (cR a0) ∧ Nums wr (w.heap.size + 1 + 1) 100 25 (part (aR a0) a0 (5 * x + y))) (fun i _ => 5 - (intOf i).toNat)
              case atStart => exact ⟨0, by omega, rfl, hb, hz, hc, ha⟩
              case round =>
                clear hb hz hc ha
                obtain ⟨y, hy, rfl, hb, hz, hc, ha⟩ := hrel
                by_cases hyl : y < 5
                · have y0 : (0 : Int) ≤ (y : Int) := by omega
                  have y1 : (y : Int) < 5 := by omega
                  obtain ⟨e1, e2, e3⟩ := tr_lt hxl hyl
                  obtain ⟨a4, ha4⟩ : ∃ m, x + 4 = m := ⟨_, rfl⟩
                  obtain ⟨a1, ha1⟩ : ∃ m, x + 1 = m := ⟨_, rfl⟩
                  have z4 : IntKind.i64.wrap ((x : Int) + 4) = (a4 : Int) := wrap_nat (by omega) (by omega)
                  have z1 : IntKind.i64.wrap ((x : Int) + 1) = (a1 : Int) := wrap_nat (by omega) (by omega)
                  have s4 : (0 : Int) ≤ (a4 : Int) := by omega
                  have s1 : (0 : Int) ≤ (a1 : Int) := by omega
                  have l4 : a4 % 5 < 5 := by omega
                  have l1 : a1 % 5 < 5 := by omega
                  have c0 := ha.cell e3
                  rw [part_at] at c0
                  have d4 := hc.cell l4
                  have d1 := hc.cell l1
                  have e4 : x * 5 + y = 5 * x + y := by omega
                  have hval : a0 (5 * x + y) ^^^ cR a0 (a4 % 5) ^^^ rl (cR a0 (a1 % 5)) 1 = aR a0 (5 * x + y) := by
                    unfold aR
                    rw [show (5 * x + y) / 5 = x by omega, ha4, ha1]
                  have L0 := hL0.out _ e3
                  have L4 := hLc.out _ l4
                  have L1 := hLc.out _ l1
                  have h1 := xor_nat L0 L4
                  have h2 := xor_nat (xor_lim L0 L4) (rl_lt _ 1 (by decide) L1)
                  rw [hval] at h2
                  have hrot : ∀ w, Calls Tryd.prog 47 #[.int .u64 ((cR a0 (a1 % 5) : Nat) : Int), .int .i64 1] w fun e w' => e = .returned (.int .u64 ((rl (cR a0 (a1 % 5)) 1 : Nat) : Int)) ∧ Below w.heap.size w w' := fun w => rotate_any (cR a0 (a1 % 5)) 1 (by decide) L1 w
                  have hps : upd (part (aR a0) a0 (5 * x + y)) (5 * x + y) (aR a0 (5 * x + y)) = part (aR a0) a0 (5 * x + (y + 1)) := funext fun i => part_step _ _ _ _
                  obtain ⟨V, hV⟩ : ∃ V, aR a0 (5 * x + y) = V := ⟨_, rfl⟩
                  rw [hV] at h2
                  obtain ⟨A0, hA0⟩ : ∃ A0, a0 (5 * x + y) = A0 := ⟨_, rfl⟩
                  rw [hA0] at c0 h1 h2
                  rw [← e4] at c0
                  replace hV := Lib.hid hV
                  replace hps := Lib.hid hps
                  replace hval := Lib.hid hval
                  replace hrot := Lib.hid hrot
                  replace e4 := Lib.hid e4
                  replace e1 := Lib.hid e1
                  replace ha4 := Lib.hid ha4
                  replace ha1 := Lib.hid ha1
                  clear L0 L4 L1
                  generalize rl (cR a0 (a1 % 5)) 1 = R1 at *
                  generalize cR a0 (a4 % 5) = C4 at *
                  generalize cR a0 (a1 % 5) = C1 at *
                  replace hA0 := Lib.hid hA0
                  replace z1 := Lib.hid z1
                  go_wp2
                  replace z1 := z1.out
                  refine wp_region_flow1 22 (by kernel_rfl) (by kernel_rfl) (by kernel_rfl) ?_
                  apply Exists.intro
                  refine ⟨fun ι _ φ hφ => ?_, fun wt hwt => ?_⟩
                  · have b0 := hφ.cell c0
                    have b4 := hφ.cell d4
                    have b1 := hφ.cell d1
                    simp only [List.take_succ_cons, List.take_zero]
                    repeat (go_big_quiet_step ((go_at_call 47; exact flow_call hφ (hrot.out _))))
                    exact wpQuiet_nil rfl
                  replace hb := below_next hb hb.size hwt
                  replace hz := hz.up hwt
                  replace hc := hc.up hwt
                  replace ha := ha.up hwt
                  have q0 := ha.cell e3
                  have q1 : wt.frozen? ⟨w.heap.size + 1 + 1, 5 * x + y, none⟩ = false := ha.free
                  rw [← e4.out] at q0 q1
                  have hst := ha.set (k := 5 * x + y) V
                  rw [← hV.out, hps.out, hV.out, ← e4.out] at hst
                  clear hwt z1 z4 c0 d4 d1
                  simp only [List.drop_succ_cons, List.drop_zero]
                  go_wp2
                  exact ⟨⟨y + 1, by omega, by go_num, hb.setCell (p := ⟨w.heap.size + 1 + 1, x * 5 + y, none⟩) (by show w.heap.size ≤ w.heap.size + 1 + 1; omega) _, hz.far (by omega), hc.far (by omega), hst⟩, left_u (by assumption)⟩
                · obtain rfl : y = 5 := by omega
                  go_wp2
                  exact ⟨⟨x + 1, by omega, by go_num, hb, hz, hc, ha⟩, left_u (by assumption)⟩
            · obtain rfl : x = 5 := by omega
              replace ha := ha.congr fun i hi => part_all (aR a0) a0 hi
              clear hc
              generalize hA1 : aR a0 = A1 at *
              have hsa := ha.at0
              have hone := arr_one A1 25
              have hl := cells25 A1
              replace hone := Lib.hid hone
              replace hl := Lib.hid hl
              replace hA1 := Lib.hid hA1
              go_upto_region 22 with (first
                | (refine list_load_mid _ _ _ 0 _ _ rfl rfl rfl hsa Tryd.underlying100 rfl (by rw [hl.out]; kernel_rfl) ?_)
                | (refine list_store_whole _ _ _ _ (arr A1 25) (arr zero 25) 100 rfl rfl rfl rfl (alloc_at rfl) (by rw [hl.out]; exact (arr_len _ _)) (by rw [hl.out]; kernel_rfl) hone.out ?_; intro w3 hbut kz))
              have hb3 : Below wr.heap.size wr w3 := hbut.below ((Below.refl _ _).alloc (Nat.le_refl _) _) (Nat.le_refl _) (by simp)
              replace hb := below_next hb hb.size hb3
              replace hz := hz.up hb3
              replace ha := ha.up hb3
              have hB : Nums w3 wr.heap.size 100 25 (bR A1 0) := kz
              have hpb : w.heap.size + 1 + 1 < wr.heap.size := World.block_lt_of_cell? _ _ (hsa 0 _ (arr_get A1 (show 0 < 25 by decide)))
              clear hbut kz hsa hb3 hone hl
              generalize wr.heap.size = pb at *
              go_wp2
              go_loopw [13, 14, 15] (fun X Y i wr => ∃ t : Nat, t ≤ 24 ∧ i = .int .i64 (t : Int) ∧ X = .int .i64 (((way t).1 : Nat) : Int) ∧ Y = .int .i64 (((way t).2 : Nat) : Int) ∧ Below w.heap.size w wr ∧ Nums wr (w.heap.size + 1) 79 25 zero ∧ Nums wr (w.heap.size + 1 + 1) 100 25 A1 ∧ Nums wr pb 100 25 (bR A1 t)) (fun _ _ i _ => 24 - (intOf i).toNat)
              case atStart => exact ⟨0, by omega, rfl, rfl, rfl, hb, hz, ha, hB⟩
              case round =>
                clear hb hz ha hB
                obtain ⟨t, ht, rfl, rfl, rfl, hb, hz, ha, hB⟩ := hrel
                by_cases htl : t < 24
                · have t0 : (0 : Int) ≤ (t : Int) := by omega
                  have t1 : (t : Int) < 24 := by omega
                  obtain ⟨hx5, hy5⟩ := way_lt t
                  have hst : upd (bR A1 t) ((way t).1 * 5 + (way t).2) (rl (A1 ((way t).1 * 5 + (way t).2)) ((t + 1) * (t + 2) / 2 % 64)) = bR A1 (t + 1) := rfl
                  have hw1 : (way (t + 1)).1 = (way t).2 := rfl
                  have hw2 : (way (t + 1)).2 = (2 * (way t).1 + 3 * (way t).2) % 5 := rfl
                  obtain ⟨wx, hwx⟩ : ∃ wx, (way (t + 1)).1 = wx := ⟨_, rfl⟩
                  obtain ⟨wy, hwy⟩ : ∃ wy, (way (t + 1)).2 = wy := ⟨_, rfl⟩
                  rw [hwx] at hw1
                  rw [hwy] at hw2
                  generalize (way t).1 = x at *
                  generalize (way t).2 = y at *
                  subst hw1
                  have x0 : (0 : Int) ≤ (x : Int) := by omega
                  have x1 : (x : Int) < 5 := by omega
                  have y0 : (0 : Int) ≤ (wx : Int) := by omega
                  have y1 : (wx : Int) < 5 := by omega
                  have hj : x * 5 + wx < 25 := by omega
                  obtain ⟨T1, hT1⟩ : ∃ m, t + 1 = m := ⟨_, rfl⟩
                  obtain ⟨T2, hT2⟩ : ∃ m, t + 2 = m := ⟨_, rfl⟩
                  obtain ⟨T3, hT3⟩ : ∃ m, T1 * T2 = m := ⟨_, rfl⟩
                  obtain ⟨T4, hT4⟩ : ∃ m, T3 / 2 = m := ⟨_, rfl⟩
                  obtain ⟨T5, hT5⟩ : ∃ m, T4 % 64 = m := ⟨_, rfl⟩
                  have hT3l : T3 ≤ 24 * 25 := by rw [← hT3]; exact Nat.mul_le_mul (by omega) (by omega)
                  have z1 : IntKind.i64.wrap ((t : Int) + 1) = (T1 : Int) := wrap_nat (by omega) (by omega)
                  have z2 : IntKind.i64.wrap ((t : Int) + 2) = (T2 : Int) := wrap_nat (by omega) (by omega)
                  have z3 : IntKind.i64.wrap ((T1 : Int) * (T2 : Int)) = (T3 : Int) := wrap_nat (by rw [← hT3]; simp) (by omega)
                  have z4 : (T3 : Int) / 2 = (T4 : Int) := by omega
                  have z4' : (T3 : Int).tdiv 2 = (T4 : Int) := by rw [Int.tdiv_eq_ediv_of_nonneg (by omega)]; omega
                  have z5 : (T4 : Int) % 64 = (T5 : Int) := by omega
                  have z5' : (T4 : Int).tmod 64 = (T5 : Int) := by rw [Int.tmod_eq_emod_of_nonneg (by omega)]; omega
                  have s3 : (0 : Int) ≤ (T3 : Int) := by omega
                  have s4 : (0 : Int) ≤ (T4 : Int) := by omega
                  have s4' : (T4 : Int) ≤ 300 := by omega
                  rw [hT1, hT2, hT3, hT4, hT5] at hst
                  have c0 := ha.cell hj
                  have hLj : A1 (x * 5 + wx) < 18446744073709551616 := hLa.out _ hj
                  have hrot : ∀ w, Calls Tryd.prog 47 #[.int .u64 ((A1 (x * 5 + wx) : Nat) : Int), .int .i64 (T5 : Int)] w fun e w' => e = .returned (.int .u64 ((rl (A1 (x * 5 + wx)) T5 : Nat) : Int)) ∧ Below w.heap.size w w' := fun w => rotate_any (A1 (x * 5 + wx)) T5 (by omega) hLj w
                  have ey : (2 * (x : Int) + 3 * (wx : Int)) % 5 = (wy : Int) := by omega
                  replace hst := Lib.hid hst
                  replace hrot := Lib.hid hrot
                  replace hT1 := Lib.hid hT1
                  replace hT2 := Lib.hid hT2
                  replace hT3 := Lib.hid hT3
                  replace hT4 := Lib.hid hT4
                  replace hT5 := Lib.hid hT5
                  replace hw2 := Lib.hid hw2
                  replace hwx := Lib.hid hwx
                  replace hwy := Lib.hid hwy
                  replace hT3l := Lib.hid hT3l
                  replace ey := Lib.hid ey
                  clear hLj
                  generalize hR1 : rl (A1 (x * 5 + wx)) T5 = R1 at *
                  replace hR1 := Lib.hid hR1
                  generalize hA0 : A1 (x * 5 + wx) = A0 at *
                  replace hA0 := Lib.hid hA0
                  replace z1 := Lib.hid z1
                  replace z2 := Lib.hid z2
                  go_wp2
                  replace z1 := z1.out
                  replace z2 := z2.out
                  refine wp_region_flow1 17 (by kernel_rfl) (by kernel_rfl) (by kernel_rfl) ?_
                  apply Exists.intro
                  refine ⟨fun ι _ φ hφ => ?_, fun wt hwt => ?_⟩
                  · have b0 := hφ.cell c0
                    simp only [List.take_succ_cons, List.take_zero]
                    repeat (go_big_quiet_step ((go_at_call 47; exact flow_call hφ (hrot.out _))))
                    exact wpQuiet_nil rfl
                  replace hb := below_next hb hb.size hwt
                  replace hz := hz.up hwt
                  replace ha := ha.up hwt
                  replace hB := hB.up hwt
                  have q0 := hB.cell hj
                  have q1 : wt.frozen? ⟨pb, x * 5 + wx, none⟩ = false := hB.free
                  have hst2 := hB.set (k := x * 5 + wx) R1
                  rw [hst.out] at hst2
                  clear hwt z1 z2 z3 z4 z4' z5 z5' c0
                  replace ey := ey.out
                  simp only [List.drop_succ_cons, List.drop_zero]
                  go_wp2
                  exact ⟨⟨t + 1, by omega, by go_num, by rw [hwx.out], by rw [hwy.out, ey], hb.setCell (p := ⟨pb, x * 5 + wx, none⟩) (by show w.heap.size ≤ pb; omega) _, hz.far (by omega), ha.far (by omega), by rw [hT1.out]; exact hst2⟩, by simp [intOf]; omega⟩
                · obtain rfl : t = 24 := by omega
                  have hLB : Lim (bR A1 24) := bR_lim hLa.out 24
                  clear ha
                  generalize hB1 : bR A1 24 = B1 at *
                  replace hB1 := Lib.hid hB1
                  replace hLB := Lib.hid hLB
                  have hpb2 := hB.lt
                  go_upto_region 29 with (fail)
                  refine name_wp (fun w4 => Below w.heap.size w w4 ∧ Nums w4 (w.heap.size + 1) 79 25 zero ∧ Nums w4 pb 100 25 B1 ∧ Nums w4 wr.heap.size 100 25 (mR B1 (5 * 0)))
                    ⟨hb.alloc hb.size _, alloc_keeps hz, alloc_keeps hB, alloc_at rfl⟩ ?_
                  clear hb hz hB
                  rintro w4 ⟨hb, hz, hB, hM⟩
                  generalize wr.heap.size = pm at *
                  go_wp2
                  go_loopw [17] (fun i wr => ∃ x : Nat, x ≤ 5 ∧ i = .int .i64 (x : Int) ∧ Below w.heap.size w wr ∧ Nums wr (w.heap.size + 1) 79 25 zero ∧ Nums wr pb 100 25 B1 ∧ Nums wr pm 100 25 (mR B1 (5 * x))) (fun i _ => 5 - (intOf i).toNat)
                  case atStart => exact ⟨0, by omega, rfl, hb, hz, hB, hM⟩
                  case round =>
                    clear hb hz hB hM
                    obtain ⟨x, hx, rfl, hb, hz, hB, hM⟩ := hrel
                    by_cases hxl : x < 5
                    · have x0 : (0 : Int) ≤ (x : Int) := by omega
                      have x1 : (x : Int) < 5 := by omega
                      go_wp2
                      go_loopw [18] (fun i wr => ∃ y : Nat, y ≤ 5 ∧ i = .int .i64 (y : Int) ∧ Below w.heap.size w wr ∧ Nums wr (w.heap.size + 1) 79 25 zero ∧ Nums wr pb 100 25 B1 ∧ Nums wr pm 100 25 (mR B1 (5 * x + y))) (fun i _ => 5 - (intOf i).toNat)
                      case atStart => exact ⟨0, by omega, rfl, hb, hz, hB, hM⟩
                      case round =>
                        clear hb hz hB hM
                        obtain ⟨y, hy, rfl, hb, hz, hB, hM⟩ := hrel
                        by_cases hyl : y < 5
                        · have y0 : (0 : Int) ≤ (y : Int) := by omega
                          have y1 : (y : Int) < 5 := by omega
                          obtain ⟨X2, hX2⟩ : ∃ m, 2 * x = m := ⟨_, rfl⟩
                          obtain ⟨Y3, hY3⟩ : ∃ m, 3 * y = m := ⟨_, rfl⟩
                          obtain ⟨S, hS⟩ : ∃ m, X2 + Y3 = m := ⟨_, rfl⟩
                          have z1 : IntKind.i64.wrap (2 * (x : Int)) = (X2 : Int) := wrap_nat (by omega) (by omega)
                          have z2 : IntKind.i64.wrap (3 * (y : Int)) = (Y3 : Int) := wrap_nat (by omega) (by omega)
                          have z3 : IntKind.i64.wrap ((X2 : Int) + (Y3 : Int)) = (S : Int) := wrap_nat (by omega) (by omega)
                          have s3 : (0 : Int) ≤ (S : Int) := by omega
                          have hj : x * 5 + y < 25 := by omega
                          have hS5 : y * 5 + S % 5 < 25 := by omega
                          have c0 := hB.cell hj
                          have hst : upd (mR B1 (5 * x + y)) (y * 5 + S % 5) (B1 (x * 5 + y)) = mR B1 (5 * x + (y + 1)) := by
                            show _ = upd (mR B1 (5 * x + y)) ((5 * x + y) % 5 * 5 + (2 * ((5 * x + y) / 5) + 3 * ((5 * x + y) % 5)) % 5) (B1 (5 * x + y))
                            rw [show (5 * x + y) % 5 = y by omega, show (5 * x + y) / 5 = x by omega, hX2, hY3, hS, show x * 5 + y = 5 * x + y by omega]
                          replace hst := Lib.hid hst
                          generalize hV : B1 (x * 5 + y) = V at *
                          replace hV := Lib.hid hV
                          replace hX2 := Lib.hid hX2
                          replace hY3 := Lib.hid hY3
                          replace hS := Lib.hid hS
                          go_wp2
                          refine wp_region_flow1 14 (by kernel_rfl) (by kernel_rfl) (by kernel_rfl) ?_
                          apply Exists.intro
                          refine ⟨fun ι _ φ hφ => ?_, fun wt hwt => ?_⟩
                          · have b0 := hφ.cell c0
                            simp only [List.take_succ_cons, List.take_zero]
                            repeat (go_big_quiet_step (fail))
                            exact wpQuiet_nil rfl
                          replace hb := below_next hb hb.size hwt
                          replace hz := hz.up hwt
                          replace hB := hB.up hwt
                          replace hM := hM.up hwt
                          have q0 := hM.cell hS5
                          have q1 : wt.frozen? ⟨pm, y * 5 + S % 5, none⟩ = false := hM.free
                          have hst2 := hM.set (k := y * 5 + S % 5) V
                          rw [hst.out] at hst2
                          clear hwt z1 z2 z3 c0
                          simp only [List.drop_succ_cons, List.drop_zero]
                          go_wp2
                          exact ⟨⟨y + 1, by omega, by go_num, hb.setCell (p := ⟨pm, y * 5 + S % 5, none⟩) (by show w.heap.size ≤ pm; omega) _, hz.far (by omega), hB.far (by omega), hst2⟩, left_u (by assumption)⟩
                        · obtain rfl : y = 5 := by omega
                          go_wp2
                          exact ⟨⟨x + 1, by omega, by go_num, hb, hz, hB, hM⟩, left_u (by assumption)⟩
                    · obtain rfl : x = 5 := by omega
                      have hLM : Lim (mR B1 25) := mR_lim hLB.out 25 (Nat.le_refl _)
                      clear hB
                      change Nums wr pm 100 25 (mR B1 25) at hM
                      generalize hM1 : mR B1 25 = M1 at *
                      replace hM1 := Lib.hid hM1
                      replace hLM := Lib.hid hLM
                      have hpm2 := hM.lt
                      go_upto_region 37 with (fail)
                      refine name_wp (fun w4 => Below w.heap.size w w4 ∧ Nums w4 (w.heap.size + 1) 79 25 zero ∧ Nums w4 pm 100 25 M1 ∧ Nums w4 wr.heap.size 79 25 (oR M1 (5 * 0)))
                        ⟨hb.alloc hb.size _, alloc_keeps hz, alloc_keeps hM, alloc_at rfl⟩ ?_
                      clear hb hz hM
                      rintro w5 ⟨hb, hz, hM, hO⟩
                      generalize wr.heap.size = po at *
                      go_wp2
                      go_loopw [20] (fun i wr => ∃ x : Nat, x ≤ 5 ∧ i = .int .i64 (x : Int) ∧ Below w.heap.size w wr ∧ Nums wr (w.heap.size + 1) 79 25 zero ∧ Nums wr pm 100 25 M1 ∧ Nums wr po 79 25 (oR M1 (5 * x))) (fun i _ => 5 - (intOf i).toNat)
                      case atStart => exact ⟨0, by omega, rfl, hb, hz, hM, hO⟩
                      case round =>
                        clear hb hz hM hO
                        obtain ⟨x, hx, rfl, hb, hz, hM, hO⟩ := hrel
                        by_cases hxl : x < 5
                        · have x0 : (0 : Int) ≤ (x : Int) := by omega
                          have x1 : (x : Int) < 5 := by omega
                          go_wp2
                          go_loopw [21] (fun i wr => ∃ y : Nat, y ≤ 5 ∧ i = .int .i64 (y : Int) ∧ Below w.heap.size w wr ∧ Nums wr (w.heap.size + 1) 79 25 zero ∧ Nums wr pm 100 25 M1 ∧ Nums wr po 79 25 (oR M1 (5 * x + y))) (fun i _ => 5 - (intOf i).toNat)
                          case atStart => exact ⟨0, by omega, rfl, hb, hz, hM, hO⟩
                          case round =>
                            clear hb hz hM hO
                            obtain ⟨y, hy, rfl, hb, hz, hM, hO⟩ := hrel
                            by_cases hyl : y < 5
                            · have y0 : (0 : Int) ≤ (y : Int) := by omega
                              have y1 : (y : Int) < 5 := by omega
                              obtain ⟨e1, e2, e3⟩ := tr_lt hxl hyl
                              obtain ⟨X1, hX1⟩ : ∃ m, x + 1 = m := ⟨_, rfl⟩
                              obtain ⟨X2, hX2⟩ : ∃ m, x + 2 = m := ⟨_, rfl⟩
                              obtain ⟨D, hD⟩ : ∃ m, x + 5 * y = m := ⟨_, rfl⟩
                              have z1 : IntKind.i64.wrap ((x : Int) + 1) = (X1 : Int) := wrap_nat (by omega) (by omega)
                              have z2 : IntKind.i64.wrap ((x : Int) + 2) = (X2 : Int) := wrap_nat (by omega) (by omega)
                              have eD : (x : Int) + 5 * (y : Int) = (D : Int) := by omega
                              have s1 : (0 : Int) ≤ (X1 : Int) := by omega
                              have s2 : (0 : Int) ≤ (X2 : Int) := by omega
                              have d0 : (0 : Int) ≤ (D : Int) := by omega
                              have d1 : (D : Int) < 25 := by omega
                              have hDl : D < 25 := by omega
                              have j0 : x * 5 + y < 25 := by omega
                              have j1 : X1 % 5 * 5 + y < 25 := by omega
                              have j2 : X2 % 5 * 5 + y < 25 := by omega
                              have c0 := hM.cell j0
                              have c1 := hM.cell j1
                              have c2 := hM.cell j2
                              have h1 := an_nat (hLM.out _ j2) (hLM.out _ j1)
                              have h2 := xor_nat (hLM.out _ j0) (an_lim (b := M1 (X1 % 5 * 5 + y)) (hLM.out _ j2))
                              have hst : upd (oR M1 (5 * x + y)) D (M1 (x * 5 + y) ^^^ anF (M1 (X2 % 5 * 5 + y)) (M1 (X1 % 5 * 5 + y))) = oR M1 (5 * x + (y + 1)) := by
                                show _ = upd (oR M1 (5 * x + y)) (tr (5 * x + y)) (M1 (5 * x + y) ^^^ anF (M1 (((5 * x + y) / 5 + 2) % 5 * 5 + (5 * x + y) % 5)) (M1 (((5 * x + y) / 5 + 1) % 5 * 5 + (5 * x + y) % 5)))
                                rw [e1, show (5 * x + y) % 5 = y by omega, show (5 * x + y) / 5 = x by omega, hX1, hX2, hD, show x * 5 + y = 5 * x + y by omega]
                              replace hst := Lib.hid hst
                              replace e1 := Lib.hid e1
                              replace hX1 := Lib.hid hX1
                              replace hX2 := Lib.hid hX2
                              replace hD := Lib.hid hD
                              generalize M1 (x * 5 + y) = V0 at *
                              generalize M1 (X1 % 5 * 5 + y) = V1 at *
                              generalize M1 (X2 % 5 * 5 + y) = V2 at *
                              generalize anF V2 V1 = V3 at *
                              generalize V0 ^^^ V3 = V4 at *
                              replace eD := Lib.hid eD
                              replace z1 := Lib.hid z1
                              replace z2 := Lib.hid z2
                              go_upto_region 43 with (fail)
                              replace z1 := z1.out
                              replace z2 := z2.out
                              go_quiet (fail)
                              clear z1 z2
                              replace hb := below_drewN' hb nq
                              have hz' : Nums (wr.drewN nq) (w.heap.size + 1) 79 25 zero := hz
                              have hM' : Nums (wr.drewN nq) pm 100 25 M1 := hM
                              have hO' : Nums (wr.drewN nq) po 79 25 (oR M1 (5 * x + y)) := hO
                              have c0' : (wr.drewN nq).cell? ⟨pm, x * 5 + y, none⟩ = some (.int .u64 ((V0 : Nat) : Int)) := c0
                              clear c0 c1 c2 hz hM hO
                              generalize wr.drewN nq = wq at *
                              have q0 := hO'.cell hDl
                              have q1 : wq.frozen? ⟨po, D, none⟩ = false := hO'.free
                              have hst2 := hO'.set (k := D) V4
                              rw [hst.out] at hst2
                              replace eD := eD.out
                              go_wp2
                              exact ⟨⟨y + 1, by omega, by go_num, hb.setCell (p := ⟨po, D, none⟩) (by show w.heap.size ≤ po; omega) _, hz'.far (by omega), hM'.far (by omega), hst2⟩, left_u (by assumption)⟩
                            · obtain rfl : y = 5 := by omega
                              go_wp2
                              exact ⟨⟨x + 1, by omega, by go_num, hb, hz, hM, hO⟩, left_u (by assumption)⟩
                        · obtain rfl : x = 5 := by omega
                          have hLO : Lim (oR M1 25) := oR_lim hLM.out 25 (Nat.le_refl _)
                          clear hM
                          change Nums wr po 79 25 (oR M1 25) at hO
                          generalize hO1 : oR M1 25 = O1 at *
                          obtain ⟨C0, hC0⟩ : ∃ C0, constsT.getD k 0 = C0 := ⟨_, rfl⟩
                          have hCl : C0 < 18446744073709551616 := by rw [← hC0]; exact consts_lim k
                          have hx := xor_nat (hLO 0 (by decide)) hCl
                          have c0 := hO.cell (show 0 < 25 by decide)
                          have hCC := hC.out
                          rw [hC0] at hCC
                          replace hCC := Lib.hid hCC
                          have hres : upd (oR (mR (bR (aR a0) 24) 25) 25) 0 (oR (mR (bR (aR a0) 24) 25) 25 0 ^^^ constsT.getD k 0) = upd O1 0 (O1 0 ^^^ C0) := by
                            rw [hA1.out, hB1.out, hM1.out, hO1, hC0]
                          replace hres := Lib.hid hres
                          replace hO1 := Lib.hid hO1
                          replace hC0 := Lib.hid hC0
                          replace hCl := Lib.hid hCl
                          replace hLO := Lib.hid hLO
                          generalize hV : O1 0 ^^^ C0 = V at *
                          generalize O1 0 = V0 at *
                          replace hV := Lib.hid hV
                          go_upto_region 45 with (fail)
                          refine wp_region_flow1 6 (by kernel_rfl) (by kernel_rfl) (by kernel_rfl) ?_
                          apply Exists.intro
                          refine ⟨fun ι _ φ hφ => ?_, fun wt hwt => ?_⟩
                          · have b0 := hφ.cell c0
                            simp only [List.take_succ_cons, List.take_zero]
                            repeat (go_big_quiet_step ((go_at_call 48; exact flow_call hφ (hCC.out _))))
                            exact wpQuiet_nil rfl
                          replace hb := below_next hb hb.size hwt
                          replace hz := hz.up hwt
                          replace hO := hO.up hwt
                          have q0 := hO.cell (show 0 < 25 by decide)
                          have q1 : wt.frozen? ⟨po, 0, none⟩ = false := hO.free
                          have hst2 := hO.set (k := 0) V
                          have hz2 : Nums (wt.setCell ⟨po, 0, none⟩ (.int .u64 ((V : Nat) : Int))) (w.heap.size + 1) 79 25 zero := hz.far (by omega)
                          have hb2 := hb.setCell (p := ⟨po, 0, none⟩) (by show w.heap.size ≤ po; omega) (.int .u64 ((V : Nat) : Int))
                          have hsa := hst2.at0
                          have hone := arr_one (upd O1 0 V) 25
                          have hl := cells25 (upd O1 0 V)
                          replace hone := Lib.hid hone
                          replace hl := Lib.hid hl
                          unfold Nums at hz2
                          clear hwt c0 hst2 hz hO hb
                          simp only [List.drop_succ_cons, List.drop_zero]
                          go_wp2_with (first
                            | (refine list_load_mid _ _ _ 0 _ _ rfl rfl rfl hsa Tryd.underlying79 rfl (by rw [hl.out]; kernel_rfl) ?_)
                            | (refine list_store_whole _ _ _ _ (arr (upd O1 0 V) 25) (arr zero 25) 79 rfl rfl rfl rfl hz2 (by rw [hl.out]; exact (arr_len _ _)) (by rw [hl.out]; kernel_rfl) hone.out ?_; intro w3 hbut kz))
                          have hlv := loadVar_whole (P := Tryd.prog) _ (At0.of_block kz) Tryd.underlying79 rfl (by rw [hl.out]; kernel_rfl)
                          exact bodyPost_ret (v := .agg (arr (upd O1 0 V) 25).toArray) (res_cell1 Tryd.results42 rfl hlv) rfl ⟨by rw [hres.out], hbut.below hb2 (by omega) hb2.size⟩
end Go.Proofs.YtfklkplnbmhddaaDoor

/-
  All rounds, as they are meant.
-/
namespace Go.Proofs.YtfklkplnbmhddaaDoor
open Go.RowKit Flow
set_option linter.unusedVariables false
set_option linter.unusedSimpArgs false

set_option maxHeartbeats 4000000 in
theorem refPerm_ok (f : Nat → Nat) (hf : Lim f) (w : World) : Calls Tryd.prog 31 #[.agg (arr f 25).toArray] w fun e w' => e = .returned (.agg (arr (permP f 12) 25).toArray) ∧ Below w.heap.size w w' := by
  replace hf := Lib.hid hf
  go_enter Tryd.func31, Tryd.ntmps31
  go_upto_region 1 with (fail)
  refine name_wp (fun w1 => Below w.heap.size w w1 ∧ Nums w1 w.heap.size 79 25 (permP f 0) ∧ Nums w1 (w.heap.size + 1) 79 25 zero)
    ⟨((Below.refl _ _).alloc (Nat.le_refl _) _).alloc (by simp) _, alloc_keeps (alloc_at rfl), alloc_at (by simp)⟩ ?_
  rintro w1 ⟨hb, hs, hz⟩
  go_wp2
  go_loopw [3] (fun i wr => ∃ k : Nat, k ≤ 12 ∧ i = .int .i64 ((12 + k : Nat) : Int) ∧ Below w.heap.size w wr ∧ Nums wr w.heap.size 79 25 (permP f k) ∧ Nums wr (w.heap.size + 1) 79 25 zero) (fun i _ => 24 - (intOf i).toNat)
  case atStart => exact ⟨0, by omega, rfl, hb, hs, hz⟩
  case round =>
    clear hb hs hz
    obtain ⟨k, hk, rfl, hb, hs, hz⟩ := hrel
    by_cases hlt : k < 12
    · obtain ⟨r, hr⟩ : ∃ r, 12 + k = r := ⟨_, rfl⟩
      have hL := permP_lim hf.out k
      have hO := fun w => one_ok (permP f k) hL k hlt w
      have hstep : arr (roundR (constsT.getD k 0) (permP f k)) 25 = arr (permP f (k + 1)) 25 := arr_congr fun i hi => round_eq _ _ hL i hi
      rw [hr, hstep] at hO
      rw [hr]
      have r0 : (0 : Int) ≤ (r : Int) := by omega
      have r1 : (r : Int) < 24 := by omega
      have er : (r : Int) + 1 = ((12 + (k + 1) : Nat) : Int) := by omega
      have hsa := hs.at0
      have hl := cells25 (permP f k)
      have hl2 := cells25 (permP f (k + 1))
      have hone := arr_one (permP f (k + 1)) 25
      replace hO := Lib.hid hO
      replace hl := Lib.hid hl
      replace hl2 := Lib.hid hl2
      replace hone := Lib.hid hone
      replace hL := Lib.hid hL
      replace hr := Lib.hid hr
      replace er := Lib.hid er
      clear hstep
      go_wp2_with (refine list_load_mid _ _ _ 0 _ _ rfl rfl rfl hsa Tryd.underlying79 rfl (by rw [hl.out]; kernel_rfl) ?_)
      refine call_then (hO.out _) ?_
      intro w2 hb2
      replace hb := below_next hb hb.size hb2
      replace hs := hs.up hb2
      replace hz := hz.up hb2
      unfold Nums at hs
      clear hb2 hsa
      go_wp2_with (refine list_store_whole _ _ _ _ (arr (permP f (k + 1)) 25) (arr (permP f k) 25) 79 rfl rfl rfl rfl hs (by rw [hl.out, hl2.out]) (by rw [hl2.out]; kernel_rfl) hone.out ?_; intro w3 hbut kz)
      exact ⟨⟨k + 1, by omega, by rw [er.out], hbut.below hb (Nat.le_refl _) hb.size, kz, hz.but hbut (by omega)⟩, by simp [intOf]; omega⟩
    · obtain rfl : k = 12 := by omega
      have hsa := hs.at0
      have hl := cells25 (permP f 12)
      have hone := arr_one (permP f 12) 25
      have hz2 := hz
      unfold Nums at hz2
      replace hl := Lib.hid hl
      replace hone := Lib.hid hone
      generalize hG : permP f 12 = G at *
      replace hG := Lib.hid hG
      go_wp2_with (first
        | (refine list_load_mid _ _ _ 0 _ _ rfl rfl rfl hsa Tryd.underlying79 rfl (by rw [hl.out]; kernel_rfl) ?_)
        | (refine list_store_whole _ _ _ _ (arr G 25) (arr zero 25) 79 rfl rfl rfl rfl hz2 (by rw [hl.out]; exact (arr_len _ _)) (by rw [hl.out]; kernel_rfl) hone.out ?_; intro w3 hbut kz))
      have hlv := loadVar_whole (P := Tryd.prog) _ (At0.of_block kz) Tryd.underlying79 rfl (by rw [hl.out]; kernel_rfl)
      exact bodyPost_ret (v := .agg (arr G 25).toArray) (res_cell1 Tryd.results31 rfl hlv) rfl ⟨by rw [hG.out], hbut.below hb (by omega) hb.size⟩
end Go.Proofs.YtfklkplnbmhddaaDoor
