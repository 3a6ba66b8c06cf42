/-
  Values at roots: the listed table, trailing zeros of a power of two, lengths that are powers of two.
-/
import Derived.Test.YtnlnbikiocdpdaaDoorFieldPow
import Derived.Test.YtnlnbikiocdpdaaDoorCard
namespace Go.Proofs.YtnlnbikiocdpdaaDoor
open Go.RowKit F Flow
set_option linter.unusedVariables false
set_option linter.unusedSimpArgs false

theorem table_of {H : Type} {enc : TypeId × Value → H} {P : Program} {w : World} {sp : Nat → Bool} {held : Bool} {nm : String} {g : Nat} {t e : TypeId} {k : IntKind} {n : Nat} (ht : P.underlying t = some (.array n e)) (he : P.underlying e = some (.int k)) (hce : P.cellsOf e = 1)
    {cs : Array Value} {fuel : Nat} {zs : List Int} {p : List MemPlace} (hg : P.globalNamed nm = some g) (hv : w.var? P nm = some cs)
    (hd : DataW.trod enc P w 0 sp held fuel t cs.toList = some (.agg (zs.map fun z => .lit (.int k z)), p)) : ∀ i z, zs[i]? = some z → w.cell? ⟨g, i, none⟩ = some (.int k z) := by
  intro i z hz
  obtain ⟨xs, m1, _, hx1, hlen, hn3, hel⟩ := DataW.trod_array ht hd
  simp only [Prod.mk.injEq, DataW.agg.injEq] at hx1
  have hil : i < zs.length := (List.getElem?_eq_some_iff.1 hz).1
  have hxl : xs.length = zs.length := by have := congrArg List.length hx1.1; simpa using this.symm
  have hi : i < n := by omega
  have h0 := hel i hi
  rw [List.getElem?_eq_getElem (show i < xs.length by omega)] at h0
  obtain ⟨a, e1, e2, _⟩ := DataW.trod_int he h0
  have hfst : (xs[i]).1 = .lit (.int k z) := by
    have := congrArg (fun l => l[i]?) hx1.1
    simp only [List.getElem?_map, hz, Option.map_some] at this
    rw [List.getElem?_eq_getElem (show i < xs.length by omega)] at this
    simpa using this.symm
  rw [e2] at hfst
  have ha : a = z := by simpa using hfst
  subst ha
  have := World.var?_cell hg hv i
  rw [this]
  rw [hce, Nat.mul_one] at e1
  have h2 := congrArg (fun l => l[0]?) e1
  simp [List.getElem?_take, List.getElem?_drop] at h2
  simpa using h2
def bruijnT : List Nat := [0, 1, 56, 2, 57, 49, 28, 3, 61, 58, 42, 50, 38, 29, 17, 4, 62, 47, 59, 36, 45, 43, 51, 22, 53, 39, 33, 30, 24, 18, 12, 5, 63, 55, 48, 27, 60, 41, 37, 16, 46, 35, 44, 21, 52, 32, 23, 11, 54, 26, 40, 15, 34, 20, 31, 10, 25, 14, 19, 9, 13, 8, 7, 6]
/-- The table, as it lies. -/
structure Tabs (w : World) : Prop where
  tn : ∀ i, i < 64 → w.cell? ⟨1, i, none⟩ = some (.int .u8 ((bruijnT.getD i 0 : Nat) : Int))
theorem Tabs.up {w w' : World} (h : Tabs w) (hb : Below w.heap.size w w') : Tabs w' :=
  ⟨fun i hi => (hb.cell (World.block_lt_of_cell? _ _ (h.tn i hi))).trans (h.tn i hi)⟩
theorem gTab32 : Tryd.prog.globalNamed "math/bits.deBruijn32tab" = some 0 := by kernel_rfl
theorem gTab64 : Tryd.prog.globalNamed "math/bits.deBruijn64tab" = some 1 := by kernel_rfl
theorem tTab32 : (Tryd.prog.globals[0]?).map (·.type) = some 78 := by kernel_rfl
theorem tTab64 : (Tryd.prog.globals[1]?).map (·.type) = some 79 := by kernel_rfl
theorem tabs_of {W : World} (h : laidMetH Tryd.prog [("math/bits.deBruijn32tab", Rows.laid_math_bits_deBruijn32tab), ("math/bits.deBruijn64tab", Rows.laid_math_bits_deBruijn64tab)] W) : Tabs W := by
  rw [MakeChecks.laidMetH_plain _ _ _ (by kernel_rfl)] at h
  obtain ⟨ps, ⟨g0, t0, cs0, f0, p0, q0, hg0, ht0, hv0, hd0, ⟨g1, t1, cs1, f1, p1, q1, hg1, ht1, hv1, hd1, _, _⟩, _⟩, _, _⟩ := h
  obtain rfl := Option.some.inj (gTab64.symm.trans hg1)
  obtain rfl := Option.some.inj (tTab64.symm.trans ht1)
  have h1 := table_of (zs := bruijnT.map fun n => ((n : Nat) : Int)) Tryd.underlying79 Tryd.underlying5 (by kernel_rfl) hg1 hv1 hd1
  refine ⟨fun i hi => h1 i _ ?_⟩
  have hl : i < bruijnT.length := hi
  rw [List.getElem?_map, List.getElem?_eq_getElem hl, List.getD_eq_getElem?_getD, List.getElem?_eq_getElem hl]
  rfl
theorem tz64_0 (w : World) (h : Tabs w) : Calls Tryd.prog 52 #[.int .u64 1] w fun e w' => e = .returned (.int .i64 0) ∧ Below w.heap.size w w' := by
  have ht := h.tn (2 ^ 0 * 285870213051353865 % 2 ^ 64 / 2 ^ 58) (by decide)
  rw [show bruijnT.getD (2 ^ 0 * 285870213051353865 % 2 ^ 64 / 2 ^ 58) 0 = 0 by decide, show 2 ^ 0 * 285870213051353865 % 2 ^ 64 / 2 ^ 58 = 0 by decide] at ht
  have hw : IntKind.u64.wrap (-1) = 18446744073709551615 := by decide +kernel
  have hand : bits .and .u64 1 18446744073709551615 = 1 := by decide +kernel
  have hmul : IntKind.u64.wrap (1 * 285870213051353865) = 285870213051353865 := by decide +kernel
  have hmul2 : IntKind.u64.wrap 285870213051353865 = 285870213051353865 := by decide +kernel
  have hdiv : (285870213051353865 : Int) / 288230376151711744 = 0 := by decide +kernel
  clear h
  go_enter Tryd.func52, Tryd.ntmps52
  go_wp2
  go_ret
  exact ⟨rfl, Below.refl _ _⟩
theorem tz_0 (w : World) (h : Tabs w) : Calls Tryd.prog 35 #[.int .u64 1] w fun e w' => e = .returned (.int .i64 0) ∧ Below w.heap.size w w' := by
  have ht := Lib.hid (tz64_0 w h)
  go_enter Tryd.func35, Tryd.ntmps35
  go_wp2_with fail
  refine call_then ht.out ?_
  intro w1 hb
  go_wp2
  go_ret
  exact ⟨rfl, hb⟩
theorem tz64_1 (w : World) (h : Tabs w) : Calls Tryd.prog 52 #[.int .u64 2] w fun e w' => e = .returned (.int .i64 1) ∧ Below w.heap.size w w' := by
  have ht := h.tn (2 ^ 1 * 285870213051353865 % 2 ^ 64 / 2 ^ 58) (by decide)
  rw [show bruijnT.getD (2 ^ 1 * 285870213051353865 % 2 ^ 64 / 2 ^ 58) 0 = 1 by decide, show 2 ^ 1 * 285870213051353865 % 2 ^ 64 / 2 ^ 58 = 1 by decide] at ht
  have hw : IntKind.u64.wrap (-2) = 18446744073709551614 := by decide +kernel
  have hand : bits .and .u64 2 18446744073709551614 = 2 := by decide +kernel
  have hmul : IntKind.u64.wrap (2 * 285870213051353865) = 571740426102707730 := by decide +kernel
  have hmul2 : IntKind.u64.wrap 571740426102707730 = 571740426102707730 := by decide +kernel
  have hdiv : (571740426102707730 : Int) / 288230376151711744 = 1 := by decide +kernel
  clear h
  go_enter Tryd.func52, Tryd.ntmps52
  go_wp2
  go_ret
  exact ⟨rfl, Below.refl _ _⟩
theorem tz_1 (w : World) (h : Tabs w) : Calls Tryd.prog 35 #[.int .u64 2] w fun e w' => e = .returned (.int .i64 1) ∧ Below w.heap.size w w' := by
  have ht := Lib.hid (tz64_1 w h)
  go_enter Tryd.func35, Tryd.ntmps35
  go_wp2_with fail
  refine call_then ht.out ?_
  intro w1 hb
  go_wp2
  go_ret
  exact ⟨rfl, hb⟩
theorem tz64_2 (w : World) (h : Tabs w) : Calls Tryd.prog 52 #[.int .u64 4] w fun e w' => e = .returned (.int .i64 2) ∧ Below w.heap.size w w' := by
  have ht := h.tn (2 ^ 2 * 285870213051353865 % 2 ^ 64 / 2 ^ 58) (by decide)
  rw [show bruijnT.getD (2 ^ 2 * 285870213051353865 % 2 ^ 64 / 2 ^ 58) 0 = 2 by decide, show 2 ^ 2 * 285870213051353865 % 2 ^ 64 / 2 ^ 58 = 3 by decide] at ht
  have hw : IntKind.u64.wrap (-4) = 18446744073709551612 := by decide +kernel
  have hand : bits .and .u64 4 18446744073709551612 = 4 := by decide +kernel
  have hmul : IntKind.u64.wrap (4 * 285870213051353865) = 1143480852205415460 := by decide +kernel
  have hmul2 : IntKind.u64.wrap 1143480852205415460 = 1143480852205415460 := by decide +kernel
  have hdiv : (1143480852205415460 : Int) / 288230376151711744 = 3 := by decide +kernel
  clear h
  go_enter Tryd.func52, Tryd.ntmps52
  go_wp2
  go_ret
  exact ⟨rfl, Below.refl _ _⟩
theorem tz_2 (w : World) (h : Tabs w) : Calls Tryd.prog 35 #[.int .u64 4] w fun e w' => e = .returned (.int .i64 2) ∧ Below w.heap.size w w' := by
  have ht := Lib.hid (tz64_2 w h)
  go_enter Tryd.func35, Tryd.ntmps35
  go_wp2_with fail
  refine call_then ht.out ?_
  intro w1 hb
  go_wp2
  go_ret
  exact ⟨rfl, hb⟩
theorem tz64_3 (w : World) (h : Tabs w) : Calls Tryd.prog 52 #[.int .u64 8] w fun e w' => e = .returned (.int .i64 3) ∧ Below w.heap.size w w' := by
  have ht := h.tn (2 ^ 3 * 285870213051353865 % 2 ^ 64 / 2 ^ 58) (by decide)
  rw [show bruijnT.getD (2 ^ 3 * 285870213051353865 % 2 ^ 64 / 2 ^ 58) 0 = 3 by decide, show 2 ^ 3 * 285870213051353865 % 2 ^ 64 / 2 ^ 58 = 7 by decide] at ht
  have hw : IntKind.u64.wrap (-8) = 18446744073709551608 := by decide +kernel
  have hand : bits .and .u64 8 18446744073709551608 = 8 := by decide +kernel
  have hmul : IntKind.u64.wrap (8 * 285870213051353865) = 2286961704410830920 := by decide +kernel
  have hmul2 : IntKind.u64.wrap 2286961704410830920 = 2286961704410830920 := by decide +kernel
  have hdiv : (2286961704410830920 : Int) / 288230376151711744 = 7 := by decide +kernel
  clear h
  go_enter Tryd.func52, Tryd.ntmps52
  go_wp2
  go_ret
  exact ⟨rfl, Below.refl _ _⟩
theorem tz_3 (w : World) (h : Tabs w) : Calls Tryd.prog 35 #[.int .u64 8] w fun e w' => e = .returned (.int .i64 3) ∧ Below w.heap.size w w' := by
  have ht := Lib.hid (tz64_3 w h)
  go_enter Tryd.func35, Tryd.ntmps35
  go_wp2_with fail
  refine call_then ht.out ?_
  intro w1 hb
  go_wp2
  go_ret
  exact ⟨rfl, hb⟩
theorem tz64_4 (w : World) (h : Tabs w) : Calls Tryd.prog 52 #[.int .u64 16] w fun e w' => e = .returned (.int .i64 4) ∧ Below w.heap.size w w' := by
  have ht := h.tn (2 ^ 4 * 285870213051353865 % 2 ^ 64 / 2 ^ 58) (by decide)
  rw [show bruijnT.getD (2 ^ 4 * 285870213051353865 % 2 ^ 64 / 2 ^ 58) 0 = 4 by decide, show 2 ^ 4 * 285870213051353865 % 2 ^ 64 / 2 ^ 58 = 15 by decide] at ht
  have hw : IntKind.u64.wrap (-16) = 18446744073709551600 := by decide +kernel
  have hand : bits .and .u64 16 18446744073709551600 = 16 := by decide +kernel
  have hmul : IntKind.u64.wrap (16 * 285870213051353865) = 4573923408821661840 := by decide +kernel
  have hmul2 : IntKind.u64.wrap 4573923408821661840 = 4573923408821661840 := by decide +kernel
  have hdiv : (4573923408821661840 : Int) / 288230376151711744 = 15 := by decide +kernel
  clear h
  go_enter Tryd.func52, Tryd.ntmps52
  go_wp2
  go_ret
  exact ⟨rfl, Below.refl _ _⟩
theorem tz_4 (w : World) (h : Tabs w) : Calls Tryd.prog 35 #[.int .u64 16] w fun e w' => e = .returned (.int .i64 4) ∧ Below w.heap.size w w' := by
  have ht := Lib.hid (tz64_4 w h)
  go_enter Tryd.func35, Tryd.ntmps35
  go_wp2_with fail
  refine call_then ht.out ?_
  intro w1 hb
  go_wp2
  go_ret
  exact ⟨rfl, hb⟩
theorem tz64_5 (w : World) (h : Tabs w) : Calls Tryd.prog 52 #[.int .u64 32] w fun e w' => e = .returned (.int .i64 5) ∧ Below w.heap.size w w' := by
  have ht := h.tn (2 ^ 5 * 285870213051353865 % 2 ^ 64 / 2 ^ 58) (by decide)
  rw [show bruijnT.getD (2 ^ 5 * 285870213051353865 % 2 ^ 64 / 2 ^ 58) 0 = 5 by decide, show 2 ^ 5 * 285870213051353865 % 2 ^ 64 / 2 ^ 58 = 31 by decide] at ht
  have hw : IntKind.u64.wrap (-32) = 18446744073709551584 := by decide +kernel
  have hand : bits .and .u64 32 18446744073709551584 = 32 := by decide +kernel
  have hmul : IntKind.u64.wrap (32 * 285870213051353865) = 9147846817643323680 := by decide +kernel
  have hmul2 : IntKind.u64.wrap 9147846817643323680 = 9147846817643323680 := by decide +kernel
  have hdiv : (9147846817643323680 : Int) / 288230376151711744 = 31 := by decide +kernel
  clear h
  go_enter Tryd.func52, Tryd.ntmps52
  go_wp2
  go_ret
  exact ⟨rfl, Below.refl _ _⟩
theorem tz_5 (w : World) (h : Tabs w) : Calls Tryd.prog 35 #[.int .u64 32] w fun e w' => e = .returned (.int .i64 5) ∧ Below w.heap.size w w' := by
  have ht := Lib.hid (tz64_5 w h)
  go_enter Tryd.func35, Tryd.ntmps35
  go_wp2_with fail
  refine call_then ht.out ?_
  intro w1 hb
  go_wp2
  go_ret
  exact ⟨rfl, hb⟩
theorem tz64_6 (w : World) (h : Tabs w) : Calls Tryd.prog 52 #[.int .u64 64] w fun e w' => e = .returned (.int .i64 6) ∧ Below w.heap.size w w' := by
  have ht := h.tn (2 ^ 6 * 285870213051353865 % 2 ^ 64 / 2 ^ 58) (by decide)
  rw [show bruijnT.getD (2 ^ 6 * 285870213051353865 % 2 ^ 64 / 2 ^ 58) 0 = 6 by decide, show 2 ^ 6 * 285870213051353865 % 2 ^ 64 / 2 ^ 58 = 63 by decide] at ht
  have hw : IntKind.u64.wrap (-64) = 18446744073709551552 := by decide +kernel
  have hand : bits .and .u64 64 18446744073709551552 = 64 := by decide +kernel
  have hmul : IntKind.u64.wrap (64 * 285870213051353865) = 18295693635286647360 := by decide +kernel
  have hmul2 : IntKind.u64.wrap 18295693635286647360 = 18295693635286647360 := by decide +kernel
  have hdiv : (18295693635286647360 : Int) / 288230376151711744 = 63 := by decide +kernel
  clear h
  go_enter Tryd.func52, Tryd.ntmps52
  go_wp2
  go_ret
  exact ⟨rfl, Below.refl _ _⟩
theorem tz_6 (w : World) (h : Tabs w) : Calls Tryd.prog 35 #[.int .u64 64] w fun e w' => e = .returned (.int .i64 6) ∧ Below w.heap.size w w' := by
  have ht := Lib.hid (tz64_6 w h)
  go_enter Tryd.func35, Tryd.ntmps35
  go_wp2_with fail
  refine call_then ht.out ?_
  intro w1 hb
  go_wp2
  go_ret
  exact ⟨rfl, hb⟩
theorem tz64_7 (w : World) (h : Tabs w) : Calls Tryd.prog 52 #[.int .u64 128] w fun e w' => e = .returned (.int .i64 7) ∧ Below w.heap.size w w' := by
  have ht := h.tn (2 ^ 7 * 285870213051353865 % 2 ^ 64 / 2 ^ 58) (by decide)
  rw [show bruijnT.getD (2 ^ 7 * 285870213051353865 % 2 ^ 64 / 2 ^ 58) 0 = 7 by decide, show 2 ^ 7 * 285870213051353865 % 2 ^ 64 / 2 ^ 58 = 62 by decide] at ht
  have hw : IntKind.u64.wrap (-128) = 18446744073709551488 := by decide +kernel
  have hand : bits .and .u64 128 18446744073709551488 = 128 := by decide +kernel
  have hmul : IntKind.u64.wrap (128 * 285870213051353865) = 18144643196863743104 := by decide +kernel
  have hmul2 : IntKind.u64.wrap 36591387270573294720 = 18144643196863743104 := by decide +kernel
  have hdiv : (18144643196863743104 : Int) / 288230376151711744 = 62 := by decide +kernel
  clear h
  go_enter Tryd.func52, Tryd.ntmps52
  go_wp2
  go_ret
  exact ⟨rfl, Below.refl _ _⟩
theorem tz_7 (w : World) (h : Tabs w) : Calls Tryd.prog 35 #[.int .u64 128] w fun e w' => e = .returned (.int .i64 7) ∧ Below w.heap.size w w' := by
  have ht := Lib.hid (tz64_7 w h)
  go_enter Tryd.func35, Tryd.ntmps35
  go_wp2_with fail
  refine call_then ht.out ?_
  intro w1 hb
  go_wp2
  go_ret
  exact ⟨rfl, hb⟩
theorem tz64_8 (w : World) (h : Tabs w) : Calls Tryd.prog 52 #[.int .u64 256] w fun e w' => e = .returned (.int .i64 8) ∧ Below w.heap.size w w' := by
  have ht := h.tn (2 ^ 8 * 285870213051353865 % 2 ^ 64 / 2 ^ 58) (by decide)
  rw [show bruijnT.getD (2 ^ 8 * 285870213051353865 % 2 ^ 64 / 2 ^ 58) 0 = 8 by decide, show 2 ^ 8 * 285870213051353865 % 2 ^ 64 / 2 ^ 58 = 61 by decide] at ht
  have hw : IntKind.u64.wrap (-256) = 18446744073709551360 := by decide +kernel
  have hand : bits .and .u64 256 18446744073709551360 = 256 := by decide +kernel
  have hmul : IntKind.u64.wrap (256 * 285870213051353865) = 17842542320017934592 := by decide +kernel
  have hmul2 : IntKind.u64.wrap 73182774541146589440 = 17842542320017934592 := by decide +kernel
  have hdiv : (17842542320017934592 : Int) / 288230376151711744 = 61 := by decide +kernel
  clear h
  go_enter Tryd.func52, Tryd.ntmps52
  go_wp2
  go_ret
  exact ⟨rfl, Below.refl _ _⟩
theorem tz_8 (w : World) (h : Tabs w) : Calls Tryd.prog 35 #[.int .u64 256] w fun e w' => e = .returned (.int .i64 8) ∧ Below w.heap.size w w' := by
  have ht := Lib.hid (tz64_8 w h)
  go_enter Tryd.func35, Tryd.ntmps35
  go_wp2_with fail
  refine call_then ht.out ?_
  intro w1 hb
  go_wp2
  go_ret
  exact ⟨rfl, hb⟩
theorem tz64_9 (w : World) (h : Tabs w) : Calls Tryd.prog 52 #[.int .u64 512] w fun e w' => e = .returned (.int .i64 9) ∧ Below w.heap.size w w' := by
  have ht := h.tn (2 ^ 9 * 285870213051353865 % 2 ^ 64 / 2 ^ 58) (by decide)
  rw [show bruijnT.getD (2 ^ 9 * 285870213051353865 % 2 ^ 64 / 2 ^ 58) 0 = 9 by decide, show 2 ^ 9 * 285870213051353865 % 2 ^ 64 / 2 ^ 58 = 59 by decide] at ht
  have hw : IntKind.u64.wrap (-512) = 18446744073709551104 := by decide +kernel
  have hand : bits .and .u64 512 18446744073709551104 = 512 := by decide +kernel
  have hmul : IntKind.u64.wrap (512 * 285870213051353865) = 17238340566326317568 := by decide +kernel
  have hmul2 : IntKind.u64.wrap 146365549082293178880 = 17238340566326317568 := by decide +kernel
  have hdiv : (17238340566326317568 : Int) / 288230376151711744 = 59 := by decide +kernel
  clear h
  go_enter Tryd.func52, Tryd.ntmps52
  go_wp2
  go_ret
  exact ⟨rfl, Below.refl _ _⟩
theorem tz_9 (w : World) (h : Tabs w) : Calls Tryd.prog 35 #[.int .u64 512] w fun e w' => e = .returned (.int .i64 9) ∧ Below w.heap.size w w' := by
  have ht := Lib.hid (tz64_9 w h)
  go_enter Tryd.func35, Tryd.ntmps35
  go_wp2_with fail
  refine call_then ht.out ?_
  intro w1 hb
  go_wp2
  go_ret
  exact ⟨rfl, hb⟩
theorem tz64_10 (w : World) (h : Tabs w) : Calls Tryd.prog 52 #[.int .u64 1024] w fun e w' => e = .returned (.int .i64 10) ∧ Below w.heap.size w w' := by
  have ht := h.tn (2 ^ 10 * 285870213051353865 % 2 ^ 64 / 2 ^ 58) (by decide)
  rw [show bruijnT.getD (2 ^ 10 * 285870213051353865 % 2 ^ 64 / 2 ^ 58) 0 = 10 by decide, show 2 ^ 10 * 285870213051353865 % 2 ^ 64 / 2 ^ 58 = 55 by decide] at ht
  have hw : IntKind.u64.wrap (-1024) = 18446744073709550592 := by decide +kernel
  have hand : bits .and .u64 1024 18446744073709550592 = 1024 := by decide +kernel
  have hmul : IntKind.u64.wrap (1024 * 285870213051353865) = 16029937058943083520 := by decide +kernel
  have hmul2 : IntKind.u64.wrap 292731098164586357760 = 16029937058943083520 := by decide +kernel
  have hdiv : (16029937058943083520 : Int) / 288230376151711744 = 55 := by decide +kernel
  clear h
  go_enter Tryd.func52, Tryd.ntmps52
  go_wp2
  go_ret
  exact ⟨rfl, Below.refl _ _⟩
theorem tz_10 (w : World) (h : Tabs w) : Calls Tryd.prog 35 #[.int .u64 1024] w fun e w' => e = .returned (.int .i64 10) ∧ Below w.heap.size w w' := by
  have ht := Lib.hid (tz64_10 w h)
  go_enter Tryd.func35, Tryd.ntmps35
  go_wp2_with fail
  refine call_then ht.out ?_
  intro w1 hb
  go_wp2
  go_ret
  exact ⟨rfl, hb⟩
end Go.Proofs.YtnlnbikiocdpdaaDoor
