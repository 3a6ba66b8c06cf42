import Derived.Test.YtebgfelbffgnbaaGreatDoorBE
import Derived.Test.YtebgfelbffgnbaaGreatDoorBX
/-
  Values at roots: the listed table, trailing zeros of a power of two, lengths that are powers of two.
-/
namespace Go.Proofs.YtebgfelbffgnbaaGreatDoor
open Go.RowKit F Flow
set_option linter.unusedVariables false
set_option linter.unusedSimpArgs false

theorem table_of {H : Type} {enc : TypeId × Value → H} {P : Program} {w : World} {sp : Nat → Bool} {held : Bool} {nm : String} {g : Nat} {t e : TypeId} {k : IntKind} {n : Nat} (ht : P.underlying t = some (.array n e)) (he : P.underlying e = some (.int k)) (hce : P.cellsOf e = 1)
    {cs : Array Value} {fuel : Nat} {zs : List Int} {p : List MemPlace} (hg : P.globalNamed nm = some g) (hv : w.var? P nm = some cs)
    (hd : DataW.trod enc P w 0 sp held fuel t cs.toList = some (.agg (zs.map fun z => .lit (.int k z)), p)) : ∀ i z, zs[i]? = some z → w.cell? ⟨g, i, none⟩ = some (.int k z) := by
  intro i z hz
  obtain ⟨xs, m1, _, hx1, hlen, hn3, hel⟩ := DataW.trod_array ht hd
  simp only [Prod.mk.injEq, DataW.agg.injEq] at hx1
  have hil : i < zs.length := (List.getElem?_eq_some_iff.1 hz).1
  have hxl : xs.length = zs.length := by have := congrArg List.length hx1.1; simpa using this.symm
  have hi : i < n := by omega
  have h0 := hel i hi
  rw [List.getElem?_eq_getElem (show i < xs.length by omega)] at h0
  obtain ⟨a, e1, e2, _⟩ := DataW.trod_int he h0
  have hfst : (xs[i]).1 = .lit (.int k z) := by
    have := congrArg (fun l => l[i]?) hx1.1
    simp only [List.getElem?_map, hz, Option.map_some] at this
    rw [List.getElem?_eq_getElem (show i < xs.length by omega)] at this
    simpa using this.symm
  rw [e2] at hfst
  have ha : a = z := by simpa using hfst
  subst ha
  have := World.var?_cell hg hv i
  rw [this]
  rw [hce, Nat.mul_one] at e1
  have h2 := congrArg (fun l => l[0]?) e1
  simp [List.getElem?_take, List.getElem?_drop] at h2
  simpa using h2
def bruijnT : List Nat := [0, 1, 56, 2, 57, 49, 28, 3, 61, 58, 42, 50, 38, 29, 17, 4, 62, 47, 59, 36, 45, 43, 51, 22, 53, 39, 33, 30, 24, 18, 12, 5, 63, 55, 48, 27, 60, 41, 37, 16, 46, 35, 44, 21, 52, 32, 23, 11, 54, 26, 40, 15, 34, 20, 31, 10, 25, 14, 19, 9, 13, 8, 7, 6]
/-- The table, as it lies. -/
structure Tabs (w : World) : Prop where
  tn : ∀ i, i < 64 → w.cell? ⟨1, i, none⟩ = some (.int .u8 ((bruijnT.getD i 0 : Nat) : Int))
theorem Tabs.up {w w' : World} (h : Tabs w) (hb : Below w.heap.size w w') : Tabs w' :=
  ⟨fun i hi => (hb.cell (World.block_lt_of_cell? _ _ (h.tn i hi))).trans (h.tn i hi)⟩
theorem gTab64 : Tryz.prog.globalNamed "math/bits.deBruijn64tab" = some 1 := by kernel_rfl
theorem tTab64 : (Tryz.prog.globals[1]?).map (·.type) = some 147 := by kernel_rfl
theorem tabs_of {W : World} (h : laidMetH Tryz.prog [("math/bits.deBruijn32tab", Rows.laid_math_bits_deBruijn32tab), ("math/bits.deBruijn64tab", Rows.laid_math_bits_deBruijn64tab)] W) : Tabs W := by
  rw [MakeChecks.laidMetH_plain _ _ _ (by kernel_rfl)] at h
  obtain ⟨ps, ⟨g0, t0, cs0, f0, p0, q0, hg0, ht0, hv0, hd0, ⟨g1, t1, cs1, f1, p1, q1, hg1, ht1, hv1, hd1, _, _⟩, _⟩, _, _⟩ := h
  obtain rfl := Option.some.inj (gTab64.symm.trans hg1)
  obtain rfl := Option.some.inj (tTab64.symm.trans ht1)
  have h1 := table_of (zs := bruijnT.map fun n => ((n : Nat) : Int)) Tryz.underlying147 Tryz.underlying5 (by kernel_rfl) hg1 hv1 hd1
  refine ⟨fun i hi => h1 i _ ?_⟩
  have hl : i < bruijnT.length := hi
  rw [List.getElem?_map, List.getElem?_eq_getElem hl, List.getD_eq_getElem?_getD, List.getElem?_eq_getElem hl]
  rfl
theorem tz64_0 (w : World) (h : Tabs w) : Calls Tryz.prog 112 #[.int .u64 1] w fun e w' => e = .returned (.int .i64 0) ∧ Below w.heap.size w w' := by
  have ht := h.tn (2 ^ 0 * 285870213051353865 % 2 ^ 64 / 2 ^ 58) (by decide)
  rw [show bruijnT.getD (2 ^ 0 * 285870213051353865 % 2 ^ 64 / 2 ^ 58) 0 = 0 by decide, show 2 ^ 0 * 285870213051353865 % 2 ^ 64 / 2 ^ 58 = 0 by decide] at ht
  have hw : IntKind.u64.wrap (-1) = 18446744073709551615 := by decide +kernel
  have hand : bits .and .u64 1 18446744073709551615 = 1 := by decide +kernel
  have hmul : IntKind.u64.wrap (1 * 285870213051353865) = 285870213051353865 := by decide +kernel
  have hmul2 : IntKind.u64.wrap 285870213051353865 = 285870213051353865 := by decide +kernel
  have hdiv : (285870213051353865 : Int) / 288230376151711744 = 0 := by decide +kernel
  clear h
  go_enter Tryz.func112, Tryz.ntmps112
  go_wp2
  go_ret
  exact ⟨rfl, Below.refl _ _⟩
theorem tz_0 (w : World) (h : Tabs w) : Calls Tryz.prog 72 #[.int .u64 1] w fun e w' => e = .returned (.int .i64 0) ∧ Below w.heap.size w w' := by
  have ht := Lib.hid (tz64_0 w h)
  go_enter Tryz.func72, Tryz.ntmps72
  go_wp2_with fail
  refine call_then ht.out ?_
  intro w1 hb
  go_wp2
  go_ret
  exact ⟨rfl, hb⟩
theorem tz64_1 (w : World) (h : Tabs w) : Calls Tryz.prog 112 #[.int .u64 2] w fun e w' => e = .returned (.int .i64 1) ∧ Below w.heap.size w w' := by
  have ht := h.tn (2 ^ 1 * 285870213051353865 % 2 ^ 64 / 2 ^ 58) (by decide)
  rw [show bruijnT.getD (2 ^ 1 * 285870213051353865 % 2 ^ 64 / 2 ^ 58) 0 = 1 by decide, show 2 ^ 1 * 285870213051353865 % 2 ^ 64 / 2 ^ 58 = 1 by decide] at ht
  have hw : IntKind.u64.wrap (-2) = 18446744073709551614 := by decide +kernel
  have hand : bits .and .u64 2 18446744073709551614 = 2 := by decide +kernel
  have hmul : IntKind.u64.wrap (2 * 285870213051353865) = 571740426102707730 := by decide +kernel
  have hmul2 : IntKind.u64.wrap 571740426102707730 = 571740426102707730 := by decide +kernel
  have hdiv : (571740426102707730 : Int) / 288230376151711744 = 1 := by decide +kernel
  clear h
  go_enter Tryz.func112, Tryz.ntmps112
  go_wp2
  go_ret
  exact ⟨rfl, Below.refl _ _⟩
theorem tz_1 (w : World) (h : Tabs w) : Calls Tryz.prog 72 #[.int .u64 2] w fun e w' => e = .returned (.int .i64 1) ∧ Below w.heap.size w w' := by
  have ht := Lib.hid (tz64_1 w h)
  go_enter Tryz.func72, Tryz.ntmps72
  go_wp2_with fail
  refine call_then ht.out ?_
  intro w1 hb
  go_wp2
  go_ret
  exact ⟨rfl, hb⟩
theorem tz64_2 (w : World) (h : Tabs w) : Calls Tryz.prog 112 #[.int .u64 4] w fun e w' => e = .returned (.int .i64 2) ∧ Below w.heap.size w w' := by
  have ht := h.tn (2 ^ 2 * 285870213051353865 % 2 ^ 64 / 2 ^ 58) (by decide)
  rw [show bruijnT.getD (2 ^ 2 * 285870213051353865 % 2 ^ 64 / 2 ^ 58) 0 = 2 by decide, show 2 ^ 2 * 285870213051353865 % 2 ^ 64 / 2 ^ 58 = 3 by decide] at ht
  have hw : IntKind.u64.wrap (-4) = 18446744073709551612 := by decide +kernel
  have hand : bits .and .u64 4 18446744073709551612 = 4 := by decide +kernel
  have hmul : IntKind.u64.wrap (4 * 285870213051353865) = 1143480852205415460 := by decide +kernel
  have hmul2 : IntKind.u64.wrap 1143480852205415460 = 1143480852205415460 := by decide +kernel
  have hdiv : (1143480852205415460 : Int) / 288230376151711744 = 3 := by decide +kernel
  clear h
  go_enter Tryz.func112, Tryz.ntmps112
  go_wp2
  go_ret
  exact ⟨rfl, Below.refl _ _⟩
theorem tz_2 (w : World) (h : Tabs w) : Calls Tryz.prog 72 #[.int .u64 4] w fun e w' => e = .returned (.int .i64 2) ∧ Below w.heap.size w w' := by
  have ht := Lib.hid (tz64_2 w h)
  go_enter Tryz.func72, Tryz.ntmps72
  go_wp2_with fail
  refine call_then ht.out ?_
  intro w1 hb
  go_wp2
  go_ret
  exact ⟨rfl, hb⟩
theorem tz64_3 (w : World) (h : Tabs w) : Calls Tryz.prog 112 #[.int .u64 8] w fun e w' => e = .returned (.int .i64 3) ∧ Below w.heap.size w w' := by
  have ht := h.tn (2 ^ 3 * 285870213051353865 % 2 ^ 64 / 2 ^ 58) (by decide)
  rw [show bruijnT.getD (2 ^ 3 * 285870213051353865 % 2 ^ 64 / 2 ^ 58) 0 = 3 by decide, show 2 ^ 3 * 285870213051353865 % 2 ^ 64 / 2 ^ 58 = 7 by decide] at ht
  have hw : IntKind.u64.wrap (-8) = 18446744073709551608 := by decide +kernel
  have hand : bits .and .u64 8 18446744073709551608 = 8 := by decide +kernel
  have hmul : IntKind.u64.wrap (8 * 285870213051353865) = 2286961704410830920 := by decide +kernel
  have hmul2 : IntKind.u64.wrap 2286961704410830920 = 2286961704410830920 := by decide +kernel
  have hdiv : (2286961704410830920 : Int) / 288230376151711744 = 7 := by decide +kernel
  clear h
  go_enter Tryz.func112, Tryz.ntmps112
  go_wp2
  go_ret
  exact ⟨rfl, Below.refl _ _⟩
theorem tz_3 (w : World) (h : Tabs w) : Calls Tryz.prog 72 #[.int .u64 8] w fun e w' => e = .returned (.int .i64 3) ∧ Below w.heap.size w w' := by
  have ht := Lib.hid (tz64_3 w h)
  go_enter Tryz.func72, Tryz.ntmps72
  go_wp2_with fail
  refine call_then ht.out ?_
  intro w1 hb
  go_wp2
  go_ret
  exact ⟨rfl, hb⟩
theorem tz64_4 (w : World) (h : Tabs w) : Calls Tryz.prog 112 #[.int .u64 16] w fun e w' => e = .returned (.int .i64 4) ∧ Below w.heap.size w w' := by
  have ht := h.tn (2 ^ 4 * 285870213051353865 % 2 ^ 64 / 2 ^ 58) (by decide)
  rw [show bruijnT.getD (2 ^ 4 * 285870213051353865 % 2 ^ 64 / 2 ^ 58) 0 = 4 by decide, show 2 ^ 4 * 285870213051353865 % 2 ^ 64 / 2 ^ 58 = 15 by decide] at ht
  have hw : IntKind.u64.wrap (-16) = 18446744073709551600 := by decide +kernel
  have hand : bits .and .u64 16 18446744073709551600 = 16 := by decide +kernel
  have hmul : IntKind.u64.wrap (16 * 285870213051353865) = 4573923408821661840 := by decide +kernel
  have hmul2 : IntKind.u64.wrap 4573923408821661840 = 4573923408821661840 := by decide +kernel
  have hdiv : (4573923408821661840 : Int) / 288230376151711744 = 15 := by decide +kernel
  clear h
  go_enter Tryz.func112, Tryz.ntmps112
  go_wp2
  go_ret
  exact ⟨rfl, Below.refl _ _⟩
theorem tz_4 (w : World) (h : Tabs w) : Calls Tryz.prog 72 #[.int .u64 16] w fun e w' => e = .returned (.int .i64 4) ∧ Below w.heap.size w w' := by
  have ht := Lib.hid (tz64_4 w h)
  go_enter Tryz.func72, Tryz.ntmps72
  go_wp2_with fail
  refine call_then ht.out ?_
  intro w1 hb
  go_wp2
  go_ret
  exact ⟨rfl, hb⟩
theorem tz64_5 (w : World) (h : Tabs w) : Calls Tryz.prog 112 #[.int .u64 32] w fun e w' => e = .returned (.int .i64 5) ∧ Below w.heap.size w w' := by
  have ht := h.tn (2 ^ 5 * 285870213051353865 % 2 ^ 64 / 2 ^ 58) (by decide)
  rw [show bruijnT.getD (2 ^ 5 * 285870213051353865 % 2 ^ 64 / 2 ^ 58) 0 = 5 by decide, show 2 ^ 5 * 285870213051353865 % 2 ^ 64 / 2 ^ 58 = 31 by decide] at ht
  have hw : IntKind.u64.wrap (-32) = 18446744073709551584 := by decide +kernel
  have hand : bits .and .u64 32 18446744073709551584 = 32 := by decide +kernel
  have hmul : IntKind.u64.wrap (32 * 285870213051353865) = 9147846817643323680 := by decide +kernel
  have hmul2 : IntKind.u64.wrap 9147846817643323680 = 9147846817643323680 := by decide +kernel
  have hdiv : (9147846817643323680 : Int) / 288230376151711744 = 31 := by decide +kernel
  clear h
  go_enter Tryz.func112, Tryz.ntmps112
  go_wp2
  go_ret
  exact ⟨rfl, Below.refl _ _⟩
theorem tz_5 (w : World) (h : Tabs w) : Calls Tryz.prog 72 #[.int .u64 32] w fun e w' => e = .returned (.int .i64 5) ∧ Below w.heap.size w w' := by
  have ht := Lib.hid (tz64_5 w h)
  go_enter Tryz.func72, Tryz.ntmps72
  go_wp2_with fail
  refine call_then ht.out ?_
  intro w1 hb
  go_wp2
  go_ret
  exact ⟨rfl, hb⟩
theorem tz64_6 (w : World) (h : Tabs w) : Calls Tryz.prog 112 #[.int .u64 64] w fun e w' => e = .returned (.int .i64 6) ∧ Below w.heap.size w w' := by
  have ht := h.tn (2 ^ 6 * 285870213051353865 % 2 ^ 64 / 2 ^ 58) (by decide)
  rw [show bruijnT.getD (2 ^ 6 * 285870213051353865 % 2 ^ 64 / 2 ^ 58) 0 = 6 by decide, show 2 ^ 6 * 285870213051353865 % 2 ^ 64 / 2 ^ 58 = 63 by decide] at ht
  have hw : IntKind.u64.wrap (-64) = 18446744073709551552 := by decide +kernel
  have hand : bits .and .u64 64 18446744073709551552 = 64 := by decide +kernel
  have hmul : IntKind.u64.wrap (64 * 285870213051353865) = 18295693635286647360 := by decide +kernel
  have hmul2 : IntKind.u64.wrap 18295693635286647360 = 18295693635286647360 := by decide +kernel
  have hdiv : (18295693635286647360 : Int) / 288230376151711744 = 63 := by decide +kernel
  clear h
  go_enter Tryz.func112, Tryz.ntmps112
  go_wp2
  go_ret
  exact ⟨rfl, Below.refl _ _⟩
theorem tz_6 (w : World) (h : Tabs w) : Calls Tryz.prog 72 #[.int .u64 64] w fun e w' => e = .returned (.int .i64 6) ∧ Below w.heap.size w w' := by
  have ht := Lib.hid (tz64_6 w h)
  go_enter Tryz.func72, Tryz.ntmps72
  go_wp2_with fail
  refine call_then ht.out ?_
  intro w1 hb
  go_wp2
  go_ret
  exact ⟨rfl, hb⟩
theorem tz64_7 (w : World) (h : Tabs w) : Calls Tryz.prog 112 #[.int .u64 128] w fun e w' => e = .returned (.int .i64 7) ∧ Below w.heap.size w w' := by
  have ht := h.tn (2 ^ 7 * 285870213051353865 % 2 ^ 64 / 2 ^ 58) (by decide)
  rw [show bruijnT.getD (2 ^ 7 * 285870213051353865 % 2 ^ 64 / 2 ^ 58) 0 = 7 by decide, show 2 ^ 7 * 285870213051353865 % 2 ^ 64 / 2 ^ 58 = 62 by decide] at ht
  have hw : IntKind.u64.wrap (-128) = 18446744073709551488 := by decide +kernel
  have hand : bits .and .u64 128 18446744073709551488 = 128 := by decide +kernel
  have hmul : IntKind.u64.wrap (128 * 285870213051353865) = 18144643196863743104 := by decide +kernel
  have hmul2 : IntKind.u64.wrap 36591387270573294720 = 18144643196863743104 := by decide +kernel
  have hdiv : (18144643196863743104 : Int) / 288230376151711744 = 62 := by decide +kernel
  clear h
  go_enter Tryz.func112, Tryz.ntmps112
  go_wp2
  go_ret
  exact ⟨rfl, Below.refl _ _⟩
theorem tz_7 (w : World) (h : Tabs w) : Calls Tryz.prog 72 #[.int .u64 128] w fun e w' => e = .returned (.int .i64 7) ∧ Below w.heap.size w w' := by
  have ht := Lib.hid (tz64_7 w h)
  go_enter Tryz.func72, Tryz.ntmps72
  go_wp2_with fail
  refine call_then ht.out ?_
  intro w1 hb
  go_wp2
  go_ret
  exact ⟨rfl, hb⟩
theorem tz64_8 (w : World) (h : Tabs w) : Calls Tryz.prog 112 #[.int .u64 256] w fun e w' => e = .returned (.int .i64 8) ∧ Below w.heap.size w w' := by
  have ht := h.tn (2 ^ 8 * 285870213051353865 % 2 ^ 64 / 2 ^ 58) (by decide)
  rw [show bruijnT.getD (2 ^ 8 * 285870213051353865 % 2 ^ 64 / 2 ^ 58) 0 = 8 by decide, show 2 ^ 8 * 285870213051353865 % 2 ^ 64 / 2 ^ 58 = 61 by decide] at ht
  have hw : IntKind.u64.wrap (-256) = 18446744073709551360 := by decide +kernel
  have hand : bits .and .u64 256 18446744073709551360 = 256 := by decide +kernel
  have hmul : IntKind.u64.wrap (256 * 285870213051353865) = 17842542320017934592 := by decide +kernel
  have hmul2 : IntKind.u64.wrap 73182774541146589440 = 17842542320017934592 := by decide +kernel
  have hdiv : (17842542320017934592 : Int) / 288230376151711744 = 61 := by decide +kernel
  clear h
  go_enter Tryz.func112, Tryz.ntmps112
  go_wp2
  go_ret
  exact ⟨rfl, Below.refl _ _⟩
theorem tz_8 (w : World) (h : Tabs w) : Calls Tryz.prog 72 #[.int .u64 256] w fun e w' => e = .returned (.int .i64 8) ∧ Below w.heap.size w w' := by
  have ht := Lib.hid (tz64_8 w h)
  go_enter Tryz.func72, Tryz.ntmps72
  go_wp2_with fail
  refine call_then ht.out ?_
  intro w1 hb
  go_wp2
  go_ret
  exact ⟨rfl, hb⟩
theorem tz64_9 (w : World) (h : Tabs w) : Calls Tryz.prog 112 #[.int .u64 512] w fun e w' => e = .returned (.int .i64 9) ∧ Below w.heap.size w w' := by
  have ht := h.tn (2 ^ 9 * 285870213051353865 % 2 ^ 64 / 2 ^ 58) (by decide)
  rw [show bruijnT.getD (2 ^ 9 * 285870213051353865 % 2 ^ 64 / 2 ^ 58) 0 = 9 by decide, show 2 ^ 9 * 285870213051353865 % 2 ^ 64 / 2 ^ 58 = 59 by decide] at ht
  have hw : IntKind.u64.wrap (-512) = 18446744073709551104 := by decide +kernel
  have hand : bits .and .u64 512 18446744073709551104 = 512 := by decide +kernel
  have hmul : IntKind.u64.wrap (512 * 285870213051353865) = 17238340566326317568 := by decide +kernel
  have hmul2 : IntKind.u64.wrap 146365549082293178880 = 17238340566326317568 := by decide +kernel
  have hdiv : (17238340566326317568 : Int) / 288230376151711744 = 59 := by decide +kernel
  clear h
  go_enter Tryz.func112, Tryz.ntmps112
  go_wp2
  go_ret
  exact ⟨rfl, Below.refl _ _⟩
theorem tz_9 (w : World) (h : Tabs w) : Calls Tryz.prog 72 #[.int .u64 512] w fun e w' => e = .returned (.int .i64 9) ∧ Below w.heap.size w w' := by
  have ht := Lib.hid (tz64_9 w h)
  go_enter Tryz.func72, Tryz.ntmps72
  go_wp2_with fail
  refine call_then ht.out ?_
  intro w1 hb
  go_wp2
  go_ret
  exact ⟨rfl, hb⟩
theorem tz64_10 (w : World) (h : Tabs w) : Calls Tryz.prog 112 #[.int .u64 1024] w fun e w' => e = .returned (.int .i64 10) ∧ Below w.heap.size w w' := by
  have ht := h.tn (2 ^ 10 * 285870213051353865 % 2 ^ 64 / 2 ^ 58) (by decide)
  rw [show bruijnT.getD (2 ^ 10 * 285870213051353865 % 2 ^ 64 / 2 ^ 58) 0 = 10 by decide, show 2 ^ 10 * 285870213051353865 % 2 ^ 64 / 2 ^ 58 = 55 by decide] at ht
  have hw : IntKind.u64.wrap (-1024) = 18446744073709550592 := by decide +kernel
  have hand : bits .and .u64 1024 18446744073709550592 = 1024 := by decide +kernel
  have hmul : IntKind.u64.wrap (1024 * 285870213051353865) = 16029937058943083520 := by decide +kernel
  have hmul2 : IntKind.u64.wrap 292731098164586357760 = 16029937058943083520 := by decide +kernel
  have hdiv : (16029937058943083520 : Int) / 288230376151711744 = 55 := by decide +kernel
  clear h
  go_enter Tryz.func112, Tryz.ntmps112
  go_wp2
  go_ret
  exact ⟨rfl, Below.refl _ _⟩
theorem tz_10 (w : World) (h : Tabs w) : Calls Tryz.prog 72 #[.int .u64 1024] w fun e w' => e = .returned (.int .i64 10) ∧ Below w.heap.size w w' := by
  have ht := Lib.hid (tz64_10 w h)
  go_enter Tryz.func72, Tryz.ntmps72
  go_wp2_with fail
  refine call_then ht.out ?_
  intro w1 hb
  go_wp2
  go_ret
  exact ⟨rfl, hb⟩
end Go.Proofs.YtebgfelbffgnbaaGreatDoor

/-
  Bits turned round; lengths that are powers of two.
-/
namespace Go.Proofs.YtebgfelbffgnbaaGreatDoor
open Go.RowKit F Flow
set_option linter.unusedVariables false
set_option linter.unusedSimpArgs false

/-- Halves of groups of bits change places. -/
def stp (d m x : Int) : Int := bits .or .u64 (bits .and .u64 (x / d) m) (IntKind.u64.wrap (bits .and .u64 x m * d))
def rbs (x : Int) : Int := bits .or .u64 (stp 65536 281470681808895 (stp 256 71777214294589695 x) / 4294967296) (IntKind.u64.wrap (stp 65536 281470681808895 (stp 256 71777214294589695 x) * 4294967296))
def rvs (x : Int) : Int := rbs (stp 16 1085102592571150095 (stp 4 3689348814741910323 (stp 2 6148914691236517205 x)))
theorem rb64_any (x : Int) (w : World) : Calls Tryz.prog 160 #[.int .u64 x] w fun e w' => e = .returned (.int .u64 (rbs x)) ∧ Below w.heap.size w w' := by
  go_enter Tryz.func160, Tryz.ntmps160
  go_wp2
  go_ret
  exact ⟨rfl, Below.refl _ _⟩
theorem rv64_any (x : Int) (w : World) : Calls Tryz.prog 147 #[.int .u64 x] w fun e w' => e = .returned (.int .u64 (rvs x)) ∧ Below w.heap.size w w' := by
  have h := Lib.hid (rb64_any (stp 16 1085102592571150095 (stp 4 3689348814741910323 (stp 2 6148914691236517205 x))))
  go_enter Tryz.func147, Tryz.ntmps147
  go_wp2_with fail
  refine call_then (h.out _) ?_
  intro w1 hb
  go_wp2
  go_ret
  exact ⟨rfl, hb⟩
/-- Where element i of 2^k goes. -/
def plc (k i : Nat) : Nat := (rvs (i : Int) / 2 / 2 ^ (63 - k)).toNat
/-- The bits of a number below 2^s, turned round. -/
def rho : Nat → Nat → Nat
  | 0, _ => 0
  | s + 1, b => rho s (b / 2) + b % 2 * 2 ^ s
set_option maxRecDepth 100000 in
theorem plc_all : ∀ k : Fin 11, ∀ i : Fin (2 ^ k.val), plc k.val i.val < 2 ^ k.val ∧ rho k.val (plc k.val i.val) = i.val ∧ (0 ≤ rvs (i.val : Int) ∧ rvs (i.val : Int) < 18446744073709551616) := by decide +kernel
set_option maxRecDepth 100000 in
theorem rho_all : ∀ k : Fin 11, ∀ p : Fin (2 ^ k.val), rho k.val p.val < 2 ^ k.val ∧ plc k.val (rho k.val p.val) = p.val := by decide +kernel
end Go.Proofs.YtebgfelbffgnbaaGreatDoor

/-
  Lengths that are powers of two: the program's and the law's.
-/
namespace Go.Proofs.YtebgfelbffgnbaaGreatDoor
open Go.RowKit F Flow
set_option linter.unusedVariables false
set_option linter.unusedSimpArgs false

theorem nlog_0 (w : World) (h : Tabs w) : Calls Tryz.prog 23 #[.int .i64 1] w fun e w' => e = .returned (.tuple #[.int .i64 0, .bool true]) ∧ Below w.heap.size w w' := by
  have ht := Lib.hid (tz_0 w h)
  have ha : bits .and .i64 1 (1 - 1) = 0 := by decide +kernel
  have ha2 : bits .and .i64 1 0 = 0 := by decide +kernel
  go_enter Tryz.func23, Tryz.ntmps23
  go_wp2_with fail
  refine call_then ht.out ?_
  intro w1 hb
  go_wp2
  go_ret2
  exact ⟨rfl, hb⟩
theorem nlog_1 (w : World) (h : Tabs w) : Calls Tryz.prog 23 #[.int .i64 2] w fun e w' => e = .returned (.tuple #[.int .i64 1, .bool true]) ∧ Below w.heap.size w w' := by
  have ht := Lib.hid (tz_1 w h)
  have ha : bits .and .i64 2 (2 - 1) = 0 := by decide +kernel
  have ha2 : bits .and .i64 2 1 = 0 := by decide +kernel
  go_enter Tryz.func23, Tryz.ntmps23
  go_wp2_with fail
  refine call_then ht.out ?_
  intro w1 hb
  go_wp2
  go_ret2
  exact ⟨rfl, hb⟩
theorem nlog_2 (w : World) (h : Tabs w) : Calls Tryz.prog 23 #[.int .i64 4] w fun e w' => e = .returned (.tuple #[.int .i64 2, .bool true]) ∧ Below w.heap.size w w' := by
  have ht := Lib.hid (tz_2 w h)
  have ha : bits .and .i64 4 (4 - 1) = 0 := by decide +kernel
  have ha2 : bits .and .i64 4 3 = 0 := by decide +kernel
  go_enter Tryz.func23, Tryz.ntmps23
  go_wp2_with fail
  refine call_then ht.out ?_
  intro w1 hb
  go_wp2
  go_ret2
  exact ⟨rfl, hb⟩
theorem nlog_3 (w : World) (h : Tabs w) : Calls Tryz.prog 23 #[.int .i64 8] w fun e w' => e = .returned (.tuple #[.int .i64 3, .bool true]) ∧ Below w.heap.size w w' := by
  have ht := Lib.hid (tz_3 w h)
  have ha : bits .and .i64 8 (8 - 1) = 0 := by decide +kernel
  have ha2 : bits .and .i64 8 7 = 0 := by decide +kernel
  go_enter Tryz.func23, Tryz.ntmps23
  go_wp2_with fail
  refine call_then ht.out ?_
  intro w1 hb
  go_wp2
  go_ret2
  exact ⟨rfl, hb⟩
theorem nlog_4 (w : World) (h : Tabs w) : Calls Tryz.prog 23 #[.int .i64 16] w fun e w' => e = .returned (.tuple #[.int .i64 4, .bool true]) ∧ Below w.heap.size w w' := by
  have ht := Lib.hid (tz_4 w h)
  have ha : bits .and .i64 16 (16 - 1) = 0 := by decide +kernel
  have ha2 : bits .and .i64 16 15 = 0 := by decide +kernel
  go_enter Tryz.func23, Tryz.ntmps23
  go_wp2_with fail
  refine call_then ht.out ?_
  intro w1 hb
  go_wp2
  go_ret2
  exact ⟨rfl, hb⟩
theorem nlog_5 (w : World) (h : Tabs w) : Calls Tryz.prog 23 #[.int .i64 32] w fun e w' => e = .returned (.tuple #[.int .i64 5, .bool true]) ∧ Below w.heap.size w w' := by
  have ht := Lib.hid (tz_5 w h)
  have ha : bits .and .i64 32 (32 - 1) = 0 := by decide +kernel
  have ha2 : bits .and .i64 32 31 = 0 := by decide +kernel
  go_enter Tryz.func23, Tryz.ntmps23
  go_wp2_with fail
  refine call_then ht.out ?_
  intro w1 hb
  go_wp2
  go_ret2
  exact ⟨rfl, hb⟩
theorem nlog_6 (w : World) (h : Tabs w) : Calls Tryz.prog 23 #[.int .i64 64] w fun e w' => e = .returned (.tuple #[.int .i64 6, .bool true]) ∧ Below w.heap.size w w' := by
  have ht := Lib.hid (tz_6 w h)
  have ha : bits .and .i64 64 (64 - 1) = 0 := by decide +kernel
  have ha2 : bits .and .i64 64 63 = 0 := by decide +kernel
  go_enter Tryz.func23, Tryz.ntmps23
  go_wp2_with fail
  refine call_then ht.out ?_
  intro w1 hb
  go_wp2
  go_ret2
  exact ⟨rfl, hb⟩
theorem nlog_7 (w : World) (h : Tabs w) : Calls Tryz.prog 23 #[.int .i64 128] w fun e w' => e = .returned (.tuple #[.int .i64 7, .bool true]) ∧ Below w.heap.size w w' := by
  have ht := Lib.hid (tz_7 w h)
  have ha : bits .and .i64 128 (128 - 1) = 0 := by decide +kernel
  have ha2 : bits .and .i64 128 127 = 0 := by decide +kernel
  go_enter Tryz.func23, Tryz.ntmps23
  go_wp2_with fail
  refine call_then ht.out ?_
  intro w1 hb
  go_wp2
  go_ret2
  exact ⟨rfl, hb⟩
theorem nlog_8 (w : World) (h : Tabs w) : Calls Tryz.prog 23 #[.int .i64 256] w fun e w' => e = .returned (.tuple #[.int .i64 8, .bool true]) ∧ Below w.heap.size w w' := by
  have ht := Lib.hid (tz_8 w h)
  have ha : bits .and .i64 256 (256 - 1) = 0 := by decide +kernel
  have ha2 : bits .and .i64 256 255 = 0 := by decide +kernel
  go_enter Tryz.func23, Tryz.ntmps23
  go_wp2_with fail
  refine call_then ht.out ?_
  intro w1 hb
  go_wp2
  go_ret2
  exact ⟨rfl, hb⟩
theorem nlog_9 (w : World) (h : Tabs w) : Calls Tryz.prog 23 #[.int .i64 512] w fun e w' => e = .returned (.tuple #[.int .i64 9, .bool true]) ∧ Below w.heap.size w w' := by
  have ht := Lib.hid (tz_9 w h)
  have ha : bits .and .i64 512 (512 - 1) = 0 := by decide +kernel
  have ha2 : bits .and .i64 512 511 = 0 := by decide +kernel
  go_enter Tryz.func23, Tryz.ntmps23
  go_wp2_with fail
  refine call_then ht.out ?_
  intro w1 hb
  go_wp2
  go_ret2
  exact ⟨rfl, hb⟩
theorem nlog_10 (w : World) (h : Tabs w) : Calls Tryz.prog 23 #[.int .i64 1024] w fun e w' => e = .returned (.tuple #[.int .i64 10, .bool true]) ∧ Below w.heap.size w w' := by
  have ht := Lib.hid (tz_10 w h)
  have ha : bits .and .i64 1024 (1024 - 1) = 0 := by decide +kernel
  have ha2 : bits .and .i64 1024 1023 = 0 := by decide +kernel
  go_enter Tryz.func23, Tryz.ntmps23
  go_wp2_with fail
  refine call_then ht.out ?_
  intro w1 hb
  go_wp2
  go_ret2
  exact ⟨rfl, hb⟩
theorem nlog_pow (k : Nat) (hk : k ≤ 10) (w : World) (h : Tabs w) : Calls Tryz.prog 23 #[.int .i64 ((2 ^ k : Nat) : Int)] w fun e w' => e = .returned (.tuple #[.int .i64 (k : Int), .bool true]) ∧ Below w.heap.size w w' := by
  have : k = 0 ∨ k = 1 ∨ k = 2 ∨ k = 3 ∨ k = 4 ∨ k = 5 ∨ k = 6 ∨ k = 7 ∨ k = 8 ∨ k = 9 ∨ k = 10 := by omega
  rcases this with rfl | rfl | rfl | rfl | rfl | rfl | rfl | rfl | rfl | rfl | rfl
  · exact nlog_0 w h
  · exact nlog_1 w h
  · exact nlog_2 w h
  · exact nlog_3 w h
  · exact nlog_4 w h
  · exact nlog_5 w h
  · exact nlog_6 w h
  · exact nlog_7 w h
  · exact nlog_8 w h
  · exact nlog_9 w h
  · exact nlog_10 w h
theorem two_le {j : Nat} (h : j ≤ 10) : 2 ^ j ≤ 1024 := Nat.pow_le_pow_right (by omega) h
theorem two_pos (j : Nat) : 1 ≤ 2 ^ j := Nat.one_le_two_pow
theorem two_inj {a b : Nat} (h : 2 ^ a = 2 ^ b) : a = b := (Nat.pow_right_inj (by omega : 1 < 2)).1 h
/-- The next power of two, 1024 at most. -/
def NextIs (n : Int) (j : Nat) : Prop := j ≤ 10 ∧ (∀ t, t < j → ((2 ^ t : Nat) : Int) < n) ∧ (n ≤ ((2 ^ j : Nat) : Int) ∨ j = 10)
def NxOut (n : Int) (w : World) (e : Ending) (w' : World) : Prop := ∃ j X : Nat, X = 2 ^ j ∧ NextIs n j ∧ e = .returned (.int .i64 (X : Int)) ∧ Below w.heap.size w w'
theorem nnext_any (n : Int) (w : World) : Calls Tryz.prog 73 #[.int .i64 n] w (NxOut n w) := by
  go_enter Tryz.func73, Tryz.ntmps73
  go_wp2
  go_loopw [3] (fun x wr => ∃ j X : Nat, Hid (X = 2 ^ j) ∧ j ≤ 10 ∧ X ≤ 1024 ∧ 1 ≤ X ∧ x = .int .i64 (X : Int) ∧ Hid (∀ t, t < j → ((2 ^ t : Nat) : Int) < n) ∧ Below w.heap.size w wr) (fun x _ => 1025 - (intOf x).toNat)
  case atStart => exact ⟨0, 1, Lib.hid rfl, by omega, by omega, by omega, rfl, Lib.hid (fun t ht => absurd ht (Nat.not_lt_zero _)), Below.refl _ _⟩
  case round =>
    obtain ⟨j, X, hX, hj, hX2, hX1, rfl, hno, hb⟩ := hrel
    by_cases h1 : (X : Int) < n
    · by_cases h2 : X < 1024
      · have x2 : (X : Int) < 1024 := by omega
        have hj2 : j < 10 := by
          rcases Nat.lt_or_ge j 10 with h | h
          · exact h
          · obtain rfl : j = 10 := by omega
            have := hX.out
            omega
        have hno2 : Hid (∀ t, t < j + 1 → ((2 ^ t : Nat) : Int) < n) := Lib.hid (fun t ht => by
          by_cases e : t = j
          · subst e; rw [← hX.out]; exact h1
          · exact hno.out t (by omega))
        go_wp2
        exact ⟨⟨j + 1, X * 2, Lib.hid (by have := hX.out; rw [Nat.pow_succ]; omega), by omega, by have := two_le (j := j + 1) (by omega); have := hX.out; rw [Nat.pow_succ] at *; omega, by omega, by go_num, hno2, hb⟩, by simp [intOf]; omega⟩
      · obtain rfl : X = 1024 := by omega
        have hj10 : j = 10 := two_inj (b := 10) (by have := hX.out; omega)
        go_wp2
        go_ret
        exact ⟨j, 1024, by rw [hj10], ⟨hj, hno.out, .inr hj10⟩, rfl, hb⟩
    · have x2 : ¬ ((X : Int) < n) := h1
      go_wp2
      go_ret
      exact ⟨j, X, hX.out, ⟨hj, hno.out, .inl (by rw [← hX.out]; omega)⟩, rfl, hb⟩
end Go.Proofs.YtebgfelbffgnbaaGreatDoor

/-
  Values at roots: a field's own facts; points.
-/
namespace Go.Proofs.YtebgfelbffgnbaaGreatDoor
open Go.RowKit F Flow
set_option linter.unusedVariables false
set_option linter.unusedSimpArgs false
attribute [local go_sem] eql_elem

/-- The root of order 2^k. -/
def rt (f : Int) (k : Nat) : Int := pow f 7 ((M f - 1) / 2 ^ k).toNat
theorem rt_ok (f : Int) (k : Nat) : 0 ≤ rt f k ∧ rt f k < 340282366920938463463374607431768211456 := by
  have := pow_bound f 7 ((M f - 1) / 2 ^ k).toNat
  have := M_lt f
  unfold rt
  omega
/-- A field, and what its package's functions answer. -/
structure Ft (f : Int) : Prop where
  one2 : f = 1 ∨ f = 2
  hval : ∀ w, Calls Tryz.prog 75 #[.int .u8 f] w fun e w' => e = .returned (.bool true) ∧ Below w.heap.size w w'
  hone : ∀ w, Calls Tryz.prog 53 #[.int .u8 f] w fun e w' => e = .returned (.agg #[.int .u64 1, .int .u64 0]) ∧ Below w.heap.size w w'
  hmul : OpBy 87 f (mul f)
  hadd : OpBy 82 f (add f)
  hsub : OpBy 90 f (sub f)
  hof : ∀ n : Int, 0 ≤ n → n < 18446744069414584321 → ∀ w, Calls Tryz.prog 54 #[.int .u8 f, .int .u64 n] w fun e w' => e = .returned (.agg #[.int .u64 (lo n), .int .u64 (hi n)]) ∧ Below w.heap.size w w'
  hroot : ∀ k : Nat, k ≤ 10 → ∀ w, Calls Tryz.prog 76 #[.int .u8 f, .int .i64 (k : Int)] w fun e w' => e = .returned (.tuple #[.agg #[.int .u64 (lo (rt f k)), .int .u64 (hi (rt f k))], .int .i64 0]) ∧ Below w.heap.size w w'
  hinv : InvBy f
theorem ft_one : Ft 1 := by
  refine ⟨.inl rfl, fvalid_one, fone_any 1 (.inl rfl), opBy_mul1, opBy_add1, opBy_sub1, fun n n0 n1 w => ?_, fun k hk w => ?_, invBy1⟩
  · have h := fof_one n n0 (by omega) w
    rw [redu_of_lt n0 (by rw [M1]; exact n1)] at h
    exact h
  · have h := fun w => groot_some (k : Int) (by omega) (by omega) w
    have e : (18446744069414584320 / 2 ^ (k : Int).toNat : Int) = (M 1 - 1) / 2 ^ k := by rw [M1, Int.toNat_natCast]; rfl
    rw [e] at h
    have hb := rt_ok 1 k
    have hp := pow_bound 1 7 ((M 1 - 1) / 2 ^ k).toNat
    have h2 := froot_one (k : Int) _ 0 h w
    rw [← show rt 1 k = pow 1 7 ((M 1 - 1) / 2 ^ k).toNat from rfl] at h2 hp
    rw [M1] at hp
    rw [lo_of_lt hp.1 (by omega), hi_of_lt hp.1 (by omega)]
    exact h2
theorem ft_two : Ft 2 := by
  refine ⟨.inr rfl, fvalid_two, fone_any 2 (.inr rfl), opBy_mul2, opBy_add2, opBy_sub2, fun n n0 n1 w => ?_, fun k hk w => ?_, invBy2⟩
  · have h := fof_two n n0 (by omega) w
    rw [redu_of_lt n0 (by have : M 2 = 340282366920938462946865773367900766209 := rfl; omega)] at h
    exact h
  · have h := fun w => wroot_some (k : Int) (by omega) (by omega) w
    have e : (340282366920938462946865773367900766208 / 2 ^ (k : Int).toNat : Int) = (M 2 - 1) / 2 ^ k := by rw [Int.toNat_natCast]; rfl
    rw [e] at h
    exact froot_two (k : Int) _ _ 0 h w
/-- What Points answers. -/
def PtsOut (f : Int) (k : Nat) (w : World) (e : Ending) (w' : World) : Prop := ∃ g, e = .returned (.tuple #[.slice (some ⟨g, 0, none⟩) (2 ^ k) (2 ^ k), .int .i64 0]) ∧ Below w.heap.size w w' ∧ w.heap.size ≤ g ∧ Row w' g (powers (mul f) (rt f k) (2 ^ k))
set_option maxHeartbeats 2000000 in
theorem npoints_any {f : Int} (ft : Ft f) (k : Nat) (hk : k ≤ 10) (w : World) : Calls Tryz.prog 25 #[.int .u8 f, .int .i64 (k : Int)] w (PtsOut f k w) := by
  have hval := Lib.hid ft.hval
  have hroot := Lib.hid (ft.hroot k hk)
  have hr := rt_ok f k
  have h2 := two_le hk
  have h1 := two_pos k
  have hpow := Lib.hid (fun w => fpowers_any f (rt f k) (2 ^ k) (mul f) hr.1 hr.2 (by omega) (by omega) ft.hval ft.hone ft.hmul w)
  unfold PtsOut
  generalize rt f k = r at *
  have k0 : (0 : Int) ≤ (k : Int) := by omega
  have k1 : (k : Int) ≤ 10 := by omega
  have hsh : ((1 : Int) * 2 ^ k) = ((2 ^ k : Nat) : Int) := by simp
  obtain ⟨X, hX⟩ : ∃ X, X = 2 ^ k := ⟨_, rfl⟩
  rw [← hX] at hpow hsh h1 h2 ⊢
  have hwr : IntKind.i64.wrap ((1 : Int) * 2 ^ k) = (X : Int) := by rw [hsh]; rw [IntKind.wrap_i64]; omega
  have hwr2 : IntKind.i64.wrap ((2 : Int) ^ k) = (X : Int) := by rw [← hwr]; simp
  have hwr3 : ((2 : Int) ^ k) = (X : Int) := by rw [← hsh]; simp
  replace hX := Lib.hid hX
  clear hsh
  go_enter Tryz.func25, Tryz.ntmps25
  go_wp2_with fail
  refine call_then (hval.out _) ?_
  intro w1 hb
  go_wp2_with fail
  refine call_then (hroot.out _) ?_
  intro w2 hb2
  replace hb := below_next hb hb.size hb2
  clear hb2
  go_wp2_with fail
  have hb2 := hb.alloc hb.size (.cells #[.int .u64 (lo r), .int .u64 (hi r)] 28 (0, 0))
  refine (hpow.out _).mono ?_
  rintro e w3 ⟨g, rfl, hb3, hg, hrow⟩
  have hg2 := Nat.le_trans hb2.size hg
  replace hb := below_next hb2 hb2.size hb3
  clear hb2 hb3
  replace hrow := Lib.hid hrow
  go_wp2
  go_ret2
  exact ⟨g, rfl, hb, hg2, hrow.out⟩
/-- The same as many as a list has elements. -/
theorem npf_any {f : Int} (ft : Ft f) (k : Nat) (hk : k ≤ 10) (N c : Nat) (hN : N = 2 ^ k) (A : Option Addr) (w : World) (hT : Tabs w) : Calls Tryz.prog 123 #[.int .u8 f, .slice A N c] w (PtsOut f k w) := by
  have hval := Lib.hid ft.hval
  have hlog := Lib.hid (fun w h => nlog_pow k hk w h)
  have hpts := Lib.hid (npoints_any ft k hk)
  unfold PtsOut at *
  obtain ⟨X, hX⟩ : ∃ X, X = 2 ^ k := ⟨_, rfl⟩
  rw [← hX] at hN hlog hpts ⊢
  subst hN
  replace hX := Lib.hid hX
  have k0 : (0 : Int) ≤ (k : Int) := by omega
  go_enter Tryz.func123, Tryz.ntmps123
  go_wp2_with fail
  refine call_then (hval.out _) ?_
  intro w1 hb
  go_wp2_with fail
  refine call_then (hlog.out _ (hT.up hb)) ?_
  intro w2 hb2
  replace hb := below_next hb hb.size hb2
  clear hb2
  go_wp2_with fail
  refine (hpts.out _).mono ?_
  rintro e w3 ⟨g, rfl, hb3, hg, hrow⟩
  have hg2 := Nat.le_trans hb.size hg
  replace hb := below_next hb hb.size hb3
  clear hb3
  replace hrow := Lib.hid hrow
  go_wp2
  go_ret2
  exact ⟨g, rfl, hb, hg2, hrow.out⟩
end Go.Proofs.YtebgfelbffgnbaaGreatDoor

/-
  Values at roots: lists as functions of their places; two halves, joined.
-/
namespace Go.Proofs.YtebgfelbffgnbaaGreatDoor
open Go.RowKit F Flow
set_option linter.unusedVariables false
set_option linter.unusedSimpArgs false
attribute [local go_sem] eql_elem

/-- A list whose elements are told by a function of their places. -/
def lst (F : Nat → Int) (N : Nat) : List Int := (List.range N).map F
theorem lst_length (F : Nat → Int) (N : Nat) : (lst F N).length = N := by simp [lst]
theorem lst_at (F : Nat → Int) {N k : Nat} (h : k < N) : (lst F N).getD k 0 = F k := by simp [lst, h]
theorem lst_set (F : Nat → Int) {N k : Nat} (z : Int) : (lst F N).set k z = lst (fun p => if p = k then z else F p) N := by
  apply List.ext_getElem (by simp [lst])
  intro i h1 h2
  simp only [lst, List.getElem_set, List.getElem_map, List.getElem_range]
  by_cases e : i = k
  · subst e; simp
  · rw [if_neg (Ne.symm e), if_neg e]
theorem lst_congr {F G : Nat → Int} {N : Nat} (h : ∀ p, p < N → F p = G p) : lst F N = lst G N := by
  apply List.ext_getElem (by simp [lst])
  intro i h1 h2
  simp only [lst, List.getElem_map, List.getElem_range]
  exact h i (by simpa [lst] using h1)
def Lim (F : Nat → Int) (N : Nat) : Prop := ∀ p, p < N → 0 ≤ F p ∧ F p < 340282366920938463463374607431768211456
theorem Lim.ok {F : Nat → Int} {N : Nat} (h : Lim F N) : ElemsOK (lst F N) := fun x hx => by
  obtain ⟨p, hp, rfl⟩ := List.mem_map.1 hx
  exact h p (List.mem_range.1 hp)
/-- What joining has done, so far. -/
def jn (mul add sub : Int → Int → Int) (F P : Nat → Int) (s h st i : Nat) (p : Nat) : Int :=
  if s ≤ p ∧ p < s + i then add (F p) (mul (F (p + h)) (P ((p - s) * st)))
  else if s + h ≤ p ∧ p < s + h + i then sub (F (p - h)) (mul (F p) (P ((p - h - s) * st)))
  else F p
theorem jn_zero (mul add sub : Int → Int → Int) (F P : Nat → Int) (s h st : Nat) : jn mul add sub F P s h st 0 = F := by
  funext p
  unfold jn
  rw [if_neg (by omega), if_neg (by omega)]
theorem jn_step (mul add sub : Int → Int → Int) (F P : Nat → Int) {s h st i : Nat} (hi : i < h) :
    (fun p => if p = s + h + i then sub (F (s + i)) (mul (F (s + h + i)) (P (i * st))) else if p = s + i then add (F (s + i)) (mul (F (s + h + i)) (P (i * st))) else jn mul add sub F P s h st i p) = jn mul add sub F P s h st (i + 1) := by
  funext p
  unfold jn
  by_cases e : p = s + h + i
  · subst e
    rw [if_pos rfl, if_neg (by omega), if_pos (by omega), show s + h + i - h = s + i by omega, show s + i - s = i by omega]
  · rw [if_neg e]
    by_cases e2 : p = s + i
    · subst e2
      rw [if_pos rfl, if_pos (by omega), show s + i + h = s + h + i by omega, show s + i - s = i by omega]
    · rw [if_neg e2]
      by_cases h1 : s ≤ p ∧ p < s + i
      · rw [if_pos h1, if_pos (show s ≤ p ∧ p < s + (i + 1) by omega)]
      · rw [if_neg h1, if_neg (show ¬ (s ≤ p ∧ p < s + (i + 1)) by omega)]
        by_cases h2 : s + h ≤ p ∧ p < s + h + i
        · rw [if_pos h2, if_pos (show s + h ≤ p ∧ p < s + h + (i + 1) by omega)]
        · rw [if_neg h2, if_neg (show ¬ (s + h ≤ p ∧ p < s + h + (i + 1)) by omega)]
/-- What is still to be done stands as it was. -/
theorem jn_at (mul add sub : Int → Int → Int) (F P : Nat → Int) {s h st i : Nat} (hi : i < h) : jn mul add sub F P s h st i (s + i) = F (s + i) ∧ jn mul add sub F P s h st i (s + h + i) = F (s + h + i) := by
  unfold jn
  rw [if_neg (by omega), if_neg (by omega), if_neg (by omega), if_neg (by omega)]
  exact ⟨rfl, rfl⟩
theorem Flow.But.put {p q o : Nat} {w w' : World} (h : But p w w') (hq : w.heap.size ≤ q) (v : Value) : But p w (w'.setCell ⟨q, o, none⟩ v) :=
  ⟨h.os, h.tape, h.output, by simp [World.setCell]; exact h.size, fun k hk hne => (Below.heap_setCell _ _ _ _ (by show k ≠ q; omega)).trans (h.block k hk hne)⟩
set_option maxRecDepth 20000 in
set_option maxHeartbeats 4000000 in
theorem join_any {f : Int} (ft : Ft f) (g gp : Nat) (hne : gp ≠ g) (F P : Nat → Int) (N s h st S c cp : Nat) (hF : Lim F N) (hP : Lim P N) (hN : N ≤ 1024) (h1 : 1 ≤ h) (hS : S = 2 * h) (hs : s + 2 * h ≤ N) (hst : N = 2 * h * st) (w : World)
    (hr : Row w g (lst F N)) (hp : Row w gp (lst P N)) :
    Calls Tryz.prog 125 #[.int .u8 f, .slice (some ⟨g, s * 2, none⟩) S c, .slice (some ⟨gp, 0, none⟩) N cp] w fun e w' => e = .returned (.tuple #[]) ∧ But g w w' ∧ Row w' g (lst (jn (mul f) (add f) (sub f) F P s h st h) N) := by
  have hst1 : 2 * (h * st) ≤ 1024 := by rw [← Nat.mul_assoc]; omega
  have hst3 : st ≤ 1024 := Nat.le_trans (Nat.le_mul_of_pos_left st h1) (by omega)
  have q1 : (S : Int) / 2 = (h : Int) := by omega
  have q2 : (N : Int).tdiv (S : Int) = (st : Int) := by
    rw [hst, hS, Int.natCast_mul]
    exact Int.mul_tdiv_cancel_left _ (by omega)
  have q3 : wrap64 (st : Int) = (st : Int) := by
    have : (st : Int) ≤ 1024 := by omega
    unfold wrap64
    omega
  have s0 : (0 : Int) < (S : Int) := by omega
  have s1 : (S : Int) ≤ 1024 := by omega
  have hSS : 2 * h ≤ S := by omega
  have l0 := lt_of_get hr
  have lp := lt_of_get hp
  have hmul := Lib.hid ft.hmul
  have hadd := Lib.hid ft.hadd
  have hsub := Lib.hid ft.hsub
  clear ft
  replace hst := Lib.hid hst
  replace hS := Lib.hid hS
  replace hF := Lib.hid hF
  replace hP := Lib.hid hP
  go_enter Tryz.func125, Tryz.ntmps125
  go_wp2
  go_loopw [20] (fun i wr => ∃ j : Nat, j ≤ h ∧ i = .int .i64 (j : Int) ∧ But g w wr ∧ Row wr g (lst (jn (mul f) (add f) (sub f) F P s h st j) N)) (fun i _ => h - (intOf i).toNat)
  case atStart => exact ⟨0, Nat.zero_le _, rfl, But.of_below (Below.refl _ _), by rw [jn_zero]; exact hr⟩
  case round =>
    clear hr
    obtain ⟨j, hj, rfl, hb, hr⟩ := hrel
    by_cases hlt : j < h
    · have hp2 : Row wr gp (lst P N) := (hb.block gp lp hne).trans hp
      obtain ⟨ja, jb⟩ := jn_at (mul f) (add f) (sub f) F P (s := s) (st := st) hlt
      have hjs : j * st < N := by
        have h2 : j * st ≤ h * st := Nat.mul_le_mul_right _ (by omega)
        have h3 : N = 2 * (h * st) := by rw [hst.out, Nat.mul_assoc]
        have h4 : 1 ≤ N := by omega
        omega
      have e0 := hF.out (s + j) (by omega)
      have e1 := hF.out (s + h + j) (by omega)
      have e2 := hP.out (j * st) hjs
      have hstep := Lib.hid (jn_step (mul f) (add f) (sub f) F P (s := s) (st := st) hlt)
      have a0 := hr.lo (k := s + j) (by rw [lst_length]; omega)
      have a1 := hr.hi (k := s + j) (by rw [lst_length]; omega)
      have a2 := hr.lo (k := s + h + j) (by rw [lst_length]; omega)
      have a3 := hr.hi (k := s + h + j) (by rw [lst_length]; omega)
      have a4 := hp2.lo (k := j * st) (by rw [lst_length]; omega)
      have a5 := hp2.hi (k := j * st) (by rw [lst_length]; omega)
      rw [lst_at _ (by omega), ja] at a0 a1
      rw [lst_at _ (by omega), jb] at a2 a3
      rw [lst_at _ (by omega)] at a4 a5
      have hlen : (lst (jn (mul f) (add f) (sub f) F P s h st j) N).length = N := lst_length _ _
      have hfin : Hid (∀ w1 u v, Row w1 g (((lst (jn (mul f) (add f) (sub f) F P s h st j) N).set (s + j) u).set (s + h + j) v) → u = add f (F (s + j)) (mul f (F (s + h + j)) (P (j * st))) → v = sub f (F (s + j)) (mul f (F (s + h + j)) (P (j * st))) → Row w1 g (lst (jn (mul f) (add f) (sub f) F P s h st (j + 1)) N)) := Lib.hid (fun w1 u v hr hu hv => by
        rw [lst_set, lst_set, hu, hv] at hr
        rw [← hstep.out]
        exact hr)
      obtain ⟨hM, hcm⟩ := hmul.out (F (s + h + j)) (P (j * st)) e1.1 e1.2 e2.1 e2.2
      obtain ⟨hA, hca⟩ := hadd.out (F (s + j)) (mul f (F (s + h + j)) (P (j * st))) e0.1 e0.2 hM.1 hM.2
      obtain ⟨hB, hcs⟩ := hsub.out (F (s + j)) (mul f (F (s + h + j)) (P (j * st))) e0.1 e0.2 hM.1 hM.2
      obtain ⟨L, hL⟩ : ∃ L, L = lst (jn (mul f) (add f) (sub f) F P s h st j) N := ⟨_, rfl⟩
      rw [← hL] at hlen hfin hr
      obtain ⟨u, hu⟩ : ∃ u, u = add f (F (s + j)) (mul f (F (s + h + j)) (P (j * st))) := ⟨_, rfl⟩
      obtain ⟨v, hv⟩ : ∃ v, v = sub f (F (s + j)) (mul f (F (s + h + j)) (P (j * st))) := ⟨_, rfl⟩
      rw [← hu] at hca
      rw [← hv] at hcs
      replace hfin := Lib.hid (fun w1 h => hfin.out w1 u v h hu hv)
      clear hu hv hA hB hM hstep ja jb e0 e1 e2 hL
      generalize mul f (F (s + h + j)) (P (j * st)) = m at *
      generalize F (s + j) = a at *
      generalize F (s + h + j) = b at *
      generalize P (j * st) = x at *
      obtain ⟨J, hJ⟩ : ∃ J, J = j * st := ⟨_, rfl⟩
      rw [← hJ] at a4 a5 hjs
      have hJ2 : (j : Int) * (st : Int) = (J : Int) := by rw [hJ]; simp
      replace hJ := Lib.hid hJ
      rw [show (s + j) * 2 = s * 2 + j * 2 by omega] at a0 a1
      rw [show (s + h + j) * 2 = s * 2 + (h + j) * 2 by omega] at a2 a3
      replace hcm := Lib.hid hcm
      replace hca := Lib.hid hca
      replace hcs := Lib.hid hcs
      have i0 : (0 : Int) ≤ (j : Int) := by omega
      have i1 : (j : Int) < (S : Int) := by omega
      have i2 : (h : Int) + (j : Int) < (S : Int) := by omega
      have i3 : (0 : Int) ≤ (h : Int) + (j : Int) := by omega
      have i4 : (J : Int) < (N : Int) := by omega
      have i5 : (0 : Int) ≤ (J : Int) := by omega
      have i6 : (j : Int) < (h : Int) := by omega
      have i7 : (J : Int) ≤ 1024 := by omega
      go_wp2
      refine wp_region_flow3 18 _ _ (.cells #[.int .u64 0, .int .u64 0] 28 (0, 0)) (.cells #[.int .u64 0, .int .u64 0] 28 (0, 0)) (by kernel_rfl) (by kernel_rfl) (by kernel_rfl) rfl rfl rfl rfl (fun _ _ => by simp [go_sem]) (fun _ _ => by simp [go_sem]) ?_
      apply Exists.intro
      refine ⟨fun ι _ φ hφ => ?_, fun w3 p q hw3 hpp hqq hpq kp kq => ?_⟩
      · have c0 := fun i => hφ.cell a0 i
        have c1 := fun i => hφ.cell a1 i
        have c2 := fun i => hφ.cell a2 i
        have c3 := fun i => hφ.cell a3 i
        have c4 := fun i => hφ.cell a4 i
        have c5 := fun i => hφ.cell a5 i
        simp only [List.take_succ_cons, List.take_zero]
        repeat (go_big_quiet_step ((first
          | (go_at_call 87; exact flow_call hφ (hcm.out _)))))
        exact wpQuiet_nil rfl
      have hws : w.heap.size ≤ wr.heap.size := hb.size
      have gp1 : g ≠ p := by have := lt_of_get hr; omega
      have gq1 : g ≠ q := by have := lt_of_get hr; omega
      have lg := lt_of_get hr
      have hpw : w.heap.size ≤ p := by omega
      have hqw : w.heap.size ≤ q := by omega
      replace hb := hb.next hw3
      replace hr := hr.up hw3
      clear hw3 a0 a1 a2 a3 a4 a5 hp2
      obtain ⟨z0, z1, z2, z3⟩ := blk2 kp
      obtain ⟨y0, y1, y2, y3⟩ := blk2 kq
      have hqp : q ≠ p := Ne.symm hpq
      simp only [List.drop_succ_cons, List.drop_zero, Act.put]
      go_wp2_with fail
      refine name_calls (fun w4 => But g w w4 ∧ Row w4 g L ∧ w4.heap[p]? = some (.cells #[.int .u64 (lo a), .int .u64 (hi a)] 28 (0, 0)) ∧ w4.heap[q]? = some (.cells #[.int .u64 (lo m), .int .u64 (hi m)] 28 (0, 0)))
        ⟨(((hb.put hpw _).put hpw _).put hqw _).put hqw _, (hr.far gp1).far gq1, store2_far (store2 kp) hpq, store2 (store2_far kq hqp)⟩ ?_
      clear hb hr kp kq z0 z1 z2 z3 y0 y1 y2 y3
      rintro w4 ⟨hb, hr, kp, kq⟩
      refine call_then (hca.out _) ?_
      intro w5 hb5
      replace hb := hb.next hb5
      replace hr := hr.up hb5
      replace kp := keeps hb5 kp
      replace kq := keeps hb5 kq
      clear hb5
      obtain ⟨z0, z1, _, _⟩ := blk2 kp
      obtain ⟨y0, y1, _, _⟩ := blk2 kq
      have a0 := hr.lo (k := s + j) (by omega)
      have a1 := hr.hi (k := s + j) (by omega)
      have f0 := hr.free ((s + j) * 2)
      have f1 := hr.free ((s + j) * 2 + 1)
      rw [show (s + j) * 2 = s * 2 + j * 2 by omega] at a0 a1 f0 f1
      have hr6 := hr.set (k := s + j) (by omega) u
      rw [show (s + j) * 2 = s * 2 + j * 2 by omega] at hr6
      go_wp2_with fail
      refine name_calls (fun w6 => But g w w6 ∧ Row w6 g (L.set (s + j) u)) ⟨(hb.set _).set _, hr6⟩ ?_
      clear hb hr kp kq z0 z1 y0 y1 a0 a1 f0 f1 hr6
      rintro w6 ⟨hb, hr⟩
      refine call_then (hcs.out _) ?_
      intro w7 hb5
      replace hb := hb.next hb5
      replace hr := hr.up hb5
      clear hb5
      have a0 := hr.lo (k := s + h + j) (by rw [List.length_set]; omega)
      have a1 := hr.hi (k := s + h + j) (by rw [List.length_set]; omega)
      have f0 := hr.free ((s + h + j) * 2)
      have f1 := hr.free ((s + h + j) * 2 + 1)
      rw [show (s + h + j) * 2 = s * 2 + (h + j) * 2 by omega] at a0 a1 f0 f1
      have hr6 := hr.set (k := s + h + j) (by rw [List.length_set]; omega) v
      rw [show (s + h + j) * 2 = s * 2 + (h + j) * 2 by omega] at hr6
      go_wp2
      exact ⟨⟨j + 1, by omega, by go_num, (hb.set _).set _, hfin.out _ hr6⟩, by simp [intOf]; omega⟩
    · obtain rfl : j = h := by omega
      go_wp2
      (try simp only [Exit.inBlock, Exit.then])
      first
        | (refine bodyPost_end (results_none rfl _ _ _) rfl ?_; exact ⟨rfl, hb, hr⟩)
        | (refine bodyPost_ret (results_none rfl _ _ _) rfl ?_; exact ⟨rfl, hb, hr⟩)
end Go.Proofs.YtebgfelbffgnbaaGreatDoor

/-
  Values at roots: the coefficients at the places that have their bits turned round.
-/
namespace Go.Proofs.YtebgfelbffgnbaaGreatDoor
open Go.RowKit F Flow
set_option linter.unusedVariables false
set_option linter.unusedSimpArgs false
attribute [local go_sem] eql_elem

theorem plc_ok {k i : Nat} (hk : k ≤ 10) (hi : i < 2 ^ k) : plc k i < 2 ^ k ∧ rho k (plc k i) = i ∧ 0 ≤ rvs (i : Int) ∧ rvs (i : Int) < 18446744073709551616 := plc_all ⟨k, by omega⟩ ⟨i, hi⟩
theorem rho_ok {k p : Nat} (hk : k ≤ 10) (hp : p < 2 ^ k) : rho k p < 2 ^ k ∧ plc k (rho k p) = p := rho_all ⟨k, by omega⟩ ⟨p, hp⟩
def ScOut (f : Int) (k : Nat) (C : Nat → Int) (N : Nat) (w : World) (e : Ending) (w' : World) : Prop := ∃ g, e = .returned (.slice (some ⟨g, 0, none⟩) N N) ∧ Below w.heap.size w w' ∧ w.heap.size ≤ g ∧ Row w' g (lst (fun p => add f (C (rho k p)) 0) N)
set_option maxHeartbeats 4000000 in
theorem scat_any {f : Int} (ft : Ft f) (k : Nat) (hk : k ≤ 10) (cs : List Int) (N c : Nat) (hN : N = 2 ^ k) (hl : cs.length = N) (hcs : ElemsOK cs) (A : Option Addr) (w : World) (hT : Tabs w) (hA : ElemsAt w A cs) :
    Calls Tryz.prog 124 #[.int .u8 f, .slice A N c] w (ScOut f k (fun i => cs.getD i 0) N w) := by
  have hlog := Lib.hid (fun w h => nlog_pow k hk w h)
  have h2 := two_le hk
  have h1 := two_pos k
  have hmk := make_elems N (by omega)
  have hadd := Lib.hid ft.hadd
  rw [← hN] at hlog h1 h2
  unfold ScOut
  have k0 : (0 : Int) ≤ (k : Int) := by omega
  have k1 : (k : Int) ≤ 10 := by omega
  replace hN := Lib.hid hN
  replace hl := Lib.hid hl
  go_enter Tryz.func124, Tryz.ntmps124
  go_wp2_with fail
  refine call_then (hlog.out _ hT) ?_
  intro w1 hb
  go_wp2
  have z0 : Row (w1.alloc (.cells (ecells (List.replicate N 0)).toArray 28)) w1.heap.size (lst (fun _ => 0) N) := by
    have e : lst (fun _ => 0) N = List.replicate N 0 := by
      apply List.ext_getElem (by simp [lst])
      intro i h1 h2
      simp [lst]
    rw [e]
    exact alloc_at rfl
  refine name_wp (fun w2 => Below w.heap.size w w2 ∧ Row w2 w1.heap.size (lst (fun _ => 0) N)) ⟨hb.alloc hb.size _, z0⟩ ?_
  have hg := hb.size
  clear z0 hb hmk hT
  generalize w1.heap.size = g at *
  rintro w2 ⟨hb, hr⟩
  go_loopw [22] (fun i wr => ∃ (j : Nat) (G : Nat → Int), j ≤ N ∧ i = .int .i64 (j : Int) ∧ Below w.heap.size w wr ∧ Row wr g (lst G N) ∧ Hid (∀ t, t < j → G (plc k t) = add f (cs.getD t 0) 0)) (fun i _ => N - (intOf i).toNat)
  case atStart => exact ⟨0, _, Nat.zero_le _, rfl, hb, hr, Lib.hid (fun t ht => absurd ht (Nat.not_lt_zero _))⟩
  case round =>
    clear hb hr
    obtain ⟨j, G, hj, rfl, hb, hr, hG⟩ := hrel
    by_cases hlt : j < N
    · obtain ⟨p1, p2, p3, p4⟩ := plc_ok hk (by rw [← hN.out]; exact hlt : j < 2 ^ k)
      rw [← hN.out] at p1
      have hlt' : j < cs.length := by rw [hl.out]; exact hlt
      obtain ⟨b, o, rfl, c0, c1⟩ := (hA.up hb) j hlt'
      have hxk := hcs.at_ hlt'
      have hG2 : Hid (∀ t, t < j + 1 → (fun p => if p = plc k j then add f (cs.getD j 0) 0 else G p) (plc k t) = add f (cs.getD t 0) 0) := Lib.hid (fun t ht => by
        by_cases e : t = j
        · subst e; simp
        · have htj : t < j := by omega
          have hne : plc k t ≠ plc k j := fun h => by
            have a := (plc_ok hk (by rw [← hN.out]; omega : t < 2 ^ k)).2.1
            rw [h, p2] at a
            exact e a.symm
          simp only [hne, if_false]
          exact hG.out t htj)
      have hlen : (lst G N).length = N := lst_length _ _
      have hset := Lib.hid (lst_set G (N := N) (k := plc k j) (add f (cs.getD j 0) 0))
      obtain ⟨hz, hca⟩ := hadd.out (cs.getD j 0) 0 hxk.1 hxk.2 (by omega) (by omega)
      rw [show lo 0 = 0 from rfl, show hi 0 = 0 from rfl] at hca
      generalize add f (cs.getD j 0) 0 = z at *
      generalize cs.getD j 0 = x at *
      have hv : rvs (j : Int) / 2 / 2 ^ (63 - k) = ((plc k j : Nat) : Int) := by
        unfold plc
        rw [Int.toNat_of_nonneg]
        exact Int.ediv_nonneg (Int.ediv_nonneg p3 (by omega)) (Int.le_of_lt (Int.pow_pos (by omega)))
      replace hca := Lib.hid hca
      generalize hq : plc k j = q at *
      generalize hrv : rvs (j : Int) = rv at *
      have hrv2 := Lib.hid (fun w => by have := rv64_any (j : Int) w; rw [hrv] at this; exact this)
      have i0 : (0 : Int) ≤ (j : Int) := by omega
      have i1 : (j : Int) < (N : Int) := by omega
      have l1 := lt_of_get hr
      have l2 := Nat.ne_of_lt l1
      have lb := World.block_lt_of_cell? _ _ c0
      have lb2 := Nat.ne_of_lt lb
      clear hrv hq
      go_wp2_with fail
      refine name_calls (fun w2 => Below w.heap.size w w2 ∧ Row w2 g (lst G N) ∧ Holds w2 wr.heap.size x) ⟨hb.alloc hb.size _, hr.alloc _, alloc_at rfl⟩ ?_
      clear hb hr c0 c1 l1 l2 lb lb2
      generalize wr.heap.size = p9 at *
      rintro w2 ⟨hb, hr, kx⟩
      refine call_then (hrv2.out _) ?_
      intro w3 hb3
      replace hb := below_next hb hb.size hb3
      replace hr := hr.up hb3
      replace kx := kx.up hb3
      clear hb3 hrv2
      have kx' : w3.heap[p9]? = some (.cells #[.int .u64 (lo x), .int .u64 (hi x)] 28 (0, 0)) := kx
      obtain ⟨x0, x1, _, _⟩ := blk2 kx'
      have s1 : (63 : Int) - (k : Int) = ((63 - k : Nat) : Int) := by omega
      have s2 : ((63 - k : Nat) : Int) < 64 := by omega
      have s3 : (0 : Int) ≤ ((63 - k : Nat) : Int) := by omega
      obtain ⟨s, hs⟩ : ∃ s, s = 63 - k := ⟨_, rfl⟩
      rw [← hs] at hv s1 s2 s3
      replace hs := Lib.hid hs
      go_wp2_with fail
      refine call_then (hca.out _) ?_
      intro w4 hb3
      replace hb := below_next hb hb.size hb3
      replace hr := hr.up hb3
      clear hb3 x0 x1 kx kx'
      have a0 := hr.lo (k := q) (by omega)
      have a1 := hr.hi (k := q) (by omega)
      have f0 := hr.free (q * 2)
      have f1 := hr.free (q * 2 + 1)
      have hr6 := hr.set (k := q) (by omega) z
      rw [hset.out] at hr6
      have i3 : (q : Int) < (N : Int) := by omega
      have i4 : (0 : Int) ≤ (q : Int) := by omega
      go_wp2
      exact ⟨⟨j + 1, _, by omega, by go_num, (hb.setCell (p := ⟨g, q * 2, none⟩) hg _).setCell (p := ⟨g, q * 2 + 1, none⟩) hg _, hr6, hG2⟩, by simp [intOf]; omega⟩
    · obtain rfl : j = N := by omega
      have hfin : lst G j = lst (fun p => add f (cs.getD (rho k p) 0) 0) j := lst_congr (fun p hp => by
        obtain ⟨r1, r2⟩ := rho_ok hk (by rw [← hN.out]; exact hp : p < 2 ^ k)
        have := hG.out (rho k p) (by rw [hN.out]; exact r1)
        rw [r2] at this
        exact this)
      rw [hfin] at hr
      replace hr := Lib.hid hr
      clear hA
      go_wp2
      go_ret
      exact ⟨g, rfl, hb, hg, hr.out⟩
end Go.Proofs.YtebgfelbffgnbaaGreatDoor
