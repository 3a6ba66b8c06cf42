/-
  Plain mathematics: into which part a number falls.
-/
import Derived.Test.YtnaakklfbegldaaPartsMath
namespace Go.Proofs.Ytnaakklfbegldaa
open Go Ieee
set_option linter.unusedVariables false

/-- A number, perhaps beyond all. -/
abbrev Whl (x : Nat) : Prop := rg x ≤ 9218868437227405312
theorem whl_cases {x : Nat} (h : Whl x) : fin x ∨ Ieee.double.read x = .infinity (sg x) := by
  rcases Nat.lt_or_eq_of_le h with h | h
  · exact .inl h
  · exact .inr (read_inf x h)
theorem whl_inf (s : Bool) : Whl (Ieee.double.write (.infinity s)) := by
  have := rg_inf s
  unfold Whl; omega
theorem sub_some {x y : Nat} (hx : Whl x) (hy : fin y) : ∃ z, subF x y = some z ∧ Whl z := by
  rcases whl_cases hx with h | h
  · obtain ⟨z, h1, h2⟩ := sub_fin h hy
    exact ⟨z, h1, h2.rounds.1⟩
  · refine ⟨Ieee.double.write (.infinity (sg x)), ?_, whl_inf _⟩
    show ((Ieee.double.read x).sum (Ieee.double.read y).opposite).map Ieee.double.write = _
    rw [h, read_finite y hy]
    rfl
theorem quo_some {x y : Nat} (hx : Whl x) (hy : fin y) (h0 : 0 < rv (rg y)) : ∃ z, quoF x y = some z ∧ Whl z := by
  rcases whl_cases hx with h | h
  · obtain ⟨z, h1, h2, _⟩ := quo_fin h hy h0
    exact ⟨z, h1, h2.1⟩
  · refine ⟨Ieee.double.write (.infinity (sg x ^^ sg y)), ?_, whl_inf _⟩
    show ((Ieee.double.read x).quotient (52 + 2) (Ieee.double.read y)).map Ieee.double.write = _
    rw [h, read_finite y hy]
    rfl
theorem mul_some {x y : Nat} (hx : Whl x) (hy : fin y) (h0 : 0 < rv (rg y)) : ∃ z, mulF x y = some z ∧ Whl z := by
  rcases whl_cases hx with h | h
  · obtain ⟨z, h1, h2, _⟩ := mul_fin h hy
    exact ⟨z, h1, h2.1⟩
  · refine ⟨Ieee.double.write (.infinity (sg x ^^ sg y)), ?_, whl_inf _⟩
    show ((Ieee.double.read x).product (Ieee.double.read y)).map Ieee.double.write = _
    rw [h, read_finite y hy]
    have hn : mg (rg y) ≠ 0 := fun e => by unfold rv at h0; rw [e, Nat.zero_mul] at h0; omega
    simp only [Datum.product]
    rw [if_neg hn]
    rfl
/-- The part into which a number falls. -/
structure IdxIs (y k a fl : Nat) : Prop where
  lt : a < k
  num : ∀ s t, FloatKind.f64.decode y ≠ .nan s t
  floor : FloatKind.f64.encode ((FloatKind.f64.decode y).integral .down) = fl
  prog : ((od fl 0 == some .lt) = true ∧ a = 0) ∨ ((od fl 0 == some .lt) = false ∧ leF (floatOfInt .f64 (k : Int)) fl = true ∧ a = k - 1) ∨
    ((od fl 0 == some .lt) = false ∧ leF (floatOfInt .f64 (k : Int)) fl = false ∧ floatToIntVal .f64 fl .i64 = some (a : Int))
  law : ∀ j : Nat, 1 ≤ j → j < k → leF (floatOfInt .f64 (j : Int)) y = decide (j ≤ a)
theorem leF_fin {x y : Nat} (hx : fin x) (hy : fin y) : leF x y = decide (kv x ≤ kv y) := by
  unfold leF
  rw [od_fin hx hy]
  rcases Int.lt_trichotomy (kv x) (kv y) with h | h | h
  · rw [Int.compare_eq_lt.2 h, decide_eq_true (by omega)]; rfl
  · rw [Int.compare_eq_eq.2 h, decide_eq_true (by omega)]; rfl
  · rw [Int.compare_eq_gt.2 h, decide_eq_false (by omega)]; rfl
theorem lt_fin {x y : Nat} (hx : fin x) (hy : fin y) : (od x y == some .lt) = decide (kv x < kv y) := by
  rw [od_fin hx hy]
  rcases Int.lt_trichotomy (kv x) (kv y) with h | h | h
  · rw [Int.compare_eq_lt.2 h, decide_eq_true h]; rfl
  · rw [Int.compare_eq_eq.2 h, decide_eq_false (by omega)]; rfl
  · rw [Int.compare_eq_gt.2 h, decide_eq_false (by omega)]; rfl
theorem idx_is {y k : Nat} (hy : Whl y) (hk : 1 ≤ k ∧ k ≤ 64) : ∃ a fl, IdxIs y k a fl := by
  obtain ⟨kf, kr, kk⟩ := rv_int (n := k) (by omega)
  rcases whl_cases hy with h | h
  · have hnum : ∀ s t, FloatKind.f64.decode y ≠ .nan s t := by
      intro s t e
      have : Ieee.double.read y = .nan s t := e
      rw [read_finite y h] at this
      cases this
    obtain ⟨fl, g1, g2, g3, g4⟩ := floor_fin h
    have hone := one_pos
    by_cases hneg : kv y < 0
    · -- below nought
      have hs : sg y = true := by
        cases hs : sg y with
        | true => rfl
        | false => rw [kv_plain hs] at hneg; omega
      have hrv : 0 < rv (rg y) := by
        have := kv_abs y
        omega
      have hd : 1 ≤ down y := by
        unfold down
        by_cases hr : rest y = 0
        · have hw : wh y ≠ 0 := fun e => by
            have := Nat.div_add_mod (rv (rg y)) one
            unfold wh at e; unfold rest at hr
            rw [e, hr] at this
            omega
          omega
        · rw [if_pos ⟨hs, hr⟩]; omega
      obtain ⟨f1, f2, f3⟩ := rv_int (n := 1) (by omega)
      have hr1 : rg (floatOfInt .f64 ((1 : Nat) : Int)) ≤ rg fl := (g2.2 _).2 (Nat.le_of_lt f1) (by
        rw [f2, Nat.mul_one]
        exact Nat.mul_le_mul_right _ hd)
      have hv1 := rv_le hr1
      rw [f2, Nat.one_mul] at hv1
      have hlt : (od fl 0 == some .lt) = true := by
        rcases Nat.lt_or_eq_of_le g2.1 with hf | hf
        · have hff : fin fl := hf
          rw [lt_fin hff fin_zero, kv_zero]
          have : kv fl < 0 := by
            unfold kv
            rw [g3, hs]
            simp; omega
          simpa using this
        · have z : Ieee.double.read 0 = .number false 0 (-1074) := by decide +kernel
          show ((Ieee.double.read fl).order (Ieee.double.read 0) == some .lt) = true
          rw [read_inf fl hf, z]
          have : (fl / 9223372036854775808 % 2 == 1) = true := g3.trans hs
          rw [this]; rfl
      refine ⟨0, fl, ⟨by omega, hnum, g1, .inl ⟨hlt, rfl⟩, fun j h1 h2 => ?_⟩⟩
      obtain ⟨j1, j2, j3⟩ := rv_int (n := j) (by omega)
      rw [leF_fin j1 h, j3]
      rw [decide_eq_false (by omega), decide_eq_false (by omega)]
    · have hkc : kv y = ((rv (rg y) : Nat) : Int) := by
        have := kv_abs y
        omega
      have hdown : down y = wh y := by
        unfold down
        rw [if_neg]
        · rfl
        · rintro ⟨hs, hr⟩
          apply hr
          unfold rest
          have : rv (rg y) = 0 := by
            unfold kv at hkc
            rw [hs] at hkc
            simp at hkc
            omega
          rw [this, Nat.zero_mod]
      rw [hdown] at g2
      obtain ⟨i, hie⟩ : ∃ i, i = wh y := ⟨_, rfl⟩
      rw [← hie] at g2
      have hdm : one * i + rest y = rv (rg y) := by rw [hie]; exact Nat.div_add_mod _ _
      have hrl : rest y < one := Nat.mod_lt _ one_pos
      have hsz : sg fl = true → rv (rg fl) = 0 := fun hs => by
        rw [g3] at hs
        have : rv (rg y) = 0 := by
          unfold kv at hkc
          rw [hs] at hkc
          simp at hkc
          omega
        have hi0 : i = 0 := by rw [hie]; unfold wh; rw [this, Nat.zero_div]
        have : rg fl ≤ 0 := (g2.2 0).1 (by rw [hi0, Nat.zero_mul]; exact Nat.zero_le _)
        have : rg fl = 0 := by omega
        rw [this, rv_zero]
      have hlaw : ∀ j : Nat, 1 ≤ j → j < k → leF (floatOfInt .f64 (j : Int)) y = decide (j ≤ i) := fun j h1 h2 => by
        obtain ⟨j1, j2, j3⟩ := rv_int (n := j) (by omega)
        rw [leF_fin j1 h, j3, hkc]
        by_cases hji : j ≤ i
        · have := Nat.mul_le_mul_right one hji
          rw [decide_eq_true hji, decide_eq_true]
          have : i * one = one * i := Nat.mul_comm _ _
          omega
        · rw [decide_eq_false hji, decide_eq_false]
          have h5 : (i + 1) * one ≤ j * one := Nat.mul_le_mul_right _ (by omega)
          rw [Nat.add_mul, Nat.one_mul, Nat.mul_comm i] at h5
          omega
      by_cases hik : k ≤ i
      · have hr1 : rg (floatOfInt .f64 (k : Int)) ≤ rg fl := (g2.2 _).2 (Nat.le_of_lt kf) (by
          rw [kr, Nat.mul_one]
          exact Nat.mul_le_mul_right _ hik)
        have hv1 := rv_le hr1
        rw [kr] at hv1
        have hko : one ≤ k * one := Nat.le_mul_of_pos_left _ (by omega)
        have hs : sg fl = false := by
          cases hs : sg fl with
          | false => rfl
          | true => have := hsz hs; omega
        have hge : leF (floatOfInt .f64 (k : Int)) fl = true ∧ (od fl 0 == some .lt) = false := by
          rcases Nat.lt_or_eq_of_le g2.1 with hf | hf
          · have hff : fin fl := hf
            rw [leF_fin kf hff, kk, lt_fin hff fin_zero, kv_zero, kv_plain hs]
            exact ⟨decide_eq_true (by omega), decide_eq_false (by omega)⟩
          · have z : Ieee.double.read 0 = .number false 0 (-1074) := by decide +kernel
            have hs' : (fl / 9223372036854775808 % 2 == 1) = false := hs
            constructor
            · show ((Ieee.double.read _).order (Ieee.double.read fl) == some .lt || (Ieee.double.read _).order (Ieee.double.read fl) == some .eq) = true
              rw [read_inf fl hf, read_finite _ kf, hs']; rfl
            · show ((Ieee.double.read fl).order (Ieee.double.read 0) == some .lt) = false
              rw [read_inf fl hf, z, hs']; rfl
        refine ⟨k - 1, fl, ⟨by omega, hnum, g1, .inr (.inl ⟨hge.2, hge.1, rfl⟩), fun j h1 h2 => ?_⟩⟩
        rw [hlaw j h1 h2, decide_eq_true (by omega), decide_eq_true (by omega)]
      · obtain ⟨k1, k2, k3⟩ := rv_int (n := i) (by omega)
        have hrg : rg fl = rg (floatOfInt .f64 (i : Int)) := g2.exact (Nat.le_of_lt k1) (by rw [k2, Nat.mul_one])
        have hfl : fin fl := by unfold Go.Proofs.Ytnaakklfbegldaa.fin at *; rw [hrg]; exact k1
        have hrvl : rv (rg fl) = i * one := by rw [hrg, k2]
        have hkl : kv fl = ((i * one : Nat) : Int) := by
          unfold kv
          cases hs : sg fl with
          | true => have := hsz hs; rw [hrvl] at this; rw [hrvl, this]; simp
          | false => rw [hrvl]; rfl
        have hwl : wh fl = i := by unfold wh; rw [hrvl, Nat.mul_div_cancel _ one_pos]
        have hlt : i * one < k * one := Nat.mul_lt_mul_of_pos_right (by omega) one_pos
        refine ⟨i, fl, ⟨by omega, hnum, g1, .inr (.inr ⟨?_, ?_, ?_⟩), hlaw⟩⟩
        · rw [lt_fin hfl fin_zero, kv_zero, hkl]
          exact decide_eq_false (by omega)
        · rw [leF_fin kf hfl, kk, hkl]
          exact decide_eq_false (by omega)
        · have e : (if sg fl then -(wh fl : Int) else (wh fl : Int)) = (i : Int) := by
            rw [hwl]
            cases hs : sg fl with
            | true =>
              have h0 := hsz hs
              rw [hrvl] at h0
              have : i = 0 := by
                rcases Nat.mul_eq_zero.1 h0 with h | h
                · exact h
                · omega
              rw [this]; simp
            | false => rfl
          have := toVal_fin hfl (k := .i64) (by rw [e]; show (-9223372036854775808 : Int) ≤ (i : Int); omega) (by rw [e]; show (i : Int) ≤ 9223372036854775807; omega)
          rw [e] at this
          exact this
  · have hnum : ∀ s t, FloatKind.f64.decode y ≠ .nan s t := by
      intro s t e
      have : Ieee.double.read y = .nan s t := e
      rw [h] at this
      cases this
    have z : Ieee.double.read 0 = .number false 0 (-1074) := by decide +kernel
    have hd : FloatKind.f64.decode y = .infinity (sg y) := h
    cases hs : sg y with
    | true =>
      rw [hs] at hd h
      refine ⟨0, FloatKind.f64.encode (Datum.integral .down (.infinity true)), ⟨by omega, hnum, by rw [hd], .inl ⟨by decide +kernel, rfl⟩, fun j h1 h2 => ?_⟩⟩
      obtain ⟨j1, j2, j3⟩ := rv_int (n := j) (by omega)
      rw [decide_eq_false (by omega)]
      show ((Ieee.double.read _).order (Ieee.double.read y) == some .lt || (Ieee.double.read _).order (Ieee.double.read y) == some .eq) = false
      rw [h, read_finite _ j1]; rfl
    | false =>
      rw [hs] at hd h
      have hw : Ieee.double.read (FloatKind.f64.encode (Datum.integral .down (.infinity false))) = .infinity false := by decide +kernel
      refine ⟨k - 1, FloatKind.f64.encode (Datum.integral .down (.infinity false)), ⟨by omega, hnum, by rw [hd], .inr (.inl ⟨by decide +kernel, ?_, rfl⟩), fun j h1 h2 => ?_⟩⟩
      · show ((Ieee.double.read _).order (Ieee.double.read _) == some .lt || (Ieee.double.read _).order (Ieee.double.read _) == some .eq) = true
        rw [hw, read_finite _ kf]; rfl
      · obtain ⟨j1, j2, j3⟩ := rv_int (n := j) (by omega)
        rw [decide_eq_true (by omega)]
        show ((Ieee.double.read _).order (Ieee.double.read y) == some .lt || (Ieee.double.read _).order (Ieee.double.read y) == some .eq) = true
        rw [h, read_finite _ j1]; rfl
/-- The other way round. -/
theorem ge_le (x y : Nat) : (od x y == some .gt || od x y == some .eq) = leF y x := by
  unfold leF
  rw [od_swap x y]
  cases od y x with
  | none => rfl
  | some o => cases o <;> rfl
/-- Two ends that may be. -/
theorem width_is {x y : Nat} (hx : isNan x = false) (hy : isNan y = false) (hl : od x y = some .lt) : ∃ d, subF y x = some d ∧ ((isinfF d = true ∧ (od d 9218868437227405311 == some .gt) = true) ∨ (GoD d ∧ (od d 9218868437227405311 == some .gt) = false ∧ fin x ∧ fin y)) := by
  have hle : od x y ≠ some .gt := by rw [hl]; simp
  have big : ∀ d, Ieee.double.read d = .infinity false → rg d = 9218868437227405312 → isinfF d = true ∧ (od d 9218868437227405311 == some .gt) = true := fun d h1 h2 => by
    have m : Ieee.double.read 9218868437227405311 = .number false 9007199254740991 971 := by decide +kernel
    constructor
    · unfold isinfF
      rw [show d % 9223372036854775808 = 9218868437227405312 from h2]
      decide +kernel
    · show ((Ieee.double.read d).order (Ieee.double.read 9218868437227405311) == some .gt) = true
      rw [h1, m]; rfl
  have bigw : ∀ d, d = Ieee.double.write (.infinity false) → isinfF d = true ∧ (od d 9218868437227405311 == some .gt) = true := fun d e => by
    subst e; exact big _ (by decide +kernel) (by decide +kernel)
  have hl' : (Ieee.double.read x).order (Ieee.double.read y) = some .lt := hl
  rcases Nat.lt_or_eq_of_le (not_nan hx) with fx | ix
  · rcases Nat.lt_or_eq_of_le (not_nan hy) with fy | iy
    · obtain ⟨d, h1, h2⟩ := sub_fin (x := y) (y := x) fy fx
      refine ⟨d, h1, ?_⟩
      have hk : kv x < kv y := by
        rw [od_fin fx fy] at hl
        exact Int.compare_eq_lt.1 (Option.some.inj hl)
      have hs : sg d = false := h2.pos (by omega)
      rcases dist hx hy hle ⟨h2.small, .inl h1⟩ with h | ⟨hg, _, _⟩
      · left
        rcases Nat.lt_or_eq_of_le h2.rounds.1 with hf | hf
        · exfalso
          have fd : fin d := hf
          have h1r : 1 ≤ rg d := (h2.rounds.2 1).2 (by decide) (by rw [rv_small (by decide)]; omega)
          have hpos : 0 < kv d := by
            rw [kv_plain hs]
            have := rv_le h1r
            rw [rv_small (by decide)] at this
            omega
          have o1 : od d 0 = some .gt := by rw [od_fin fd fin_zero, kv_zero, Int.compare_eq_gt.2 hpos]
          have hm := below_max fd
          have hi : isinfF d = false := by
            unfold isinfF
            rw [od_fin (fin_bare fd) fin_max]
            simpa using hm
          rcases h.1 with q | ⟨_, q | ⟨_, q⟩⟩
          · rw [o1] at q; cases q
          · rw [hi] at q; cases q
          · rw [nan_fin fd] at q; cases q
        · refine big d ?_ hf
          rw [read_inf d hf]
          have : (d / 9223372036854775808 % 2 == 1) = false := hs
          rw [this]
      · right
        refine ⟨hg, ?_, fx, fy⟩
        have := hg.le
        unfold leF at this
        cases ho : od d 9218868437227405311 with
        | none => rfl
        | some o => rw [ho] at this; cases o <;> first | rfl | (exact absurd this (by decide))
    · rw [read_finite x fx, read_inf y iy] at hl'
      have hs : (y / 9223372036854775808 % 2 == 1) = false := by
        cases hs : (y / 9223372036854775808 % 2 == 1) with
        | false => rfl
        | true => rw [hs] at hl'; cases hl'
      refine ⟨Ieee.double.write (.infinity false), ?_, .inl (bigw _ rfl)⟩
      show ((Ieee.double.read y).sum (Ieee.double.read x).opposite).map Ieee.double.write = _
      rw [read_inf y iy, read_finite x fx, hs]
      rfl
  · have hs : (x / 9223372036854775808 % 2 == 1) = true := by
      cases hs : (x / 9223372036854775808 % 2 == 1) with
      | true => rfl
      | false =>
        rw [read_inf x ix, hs] at hl'
        rcases Nat.lt_or_eq_of_le (not_nan hy) with fy | iy
        · rw [read_finite y fy] at hl'; cases hl'
        · rw [read_inf y iy] at hl'
          cases hs2 : (y / 9223372036854775808 % 2 == 1) <;> rw [hs2] at hl' <;> exact absurd hl' (by decide)
    refine ⟨Ieee.double.write (.infinity false), ?_, .inl (bigw _ rfl)⟩
    show ((Ieee.double.read y).sum (Ieee.double.read x).opposite).map Ieee.double.write = _
    rw [read_inf x ix, hs]
    rcases Nat.lt_or_eq_of_le (not_nan hy) with fy | iy
    · rw [read_finite y fy]; rfl
    · rw [read_inf y iy]
      rw [read_inf x ix, hs, read_inf y iy] at hl'
      cases hs2 : (y / 9223372036854775808 % 2 == 1) with
      | false => rfl
      | true => rw [hs2] at hl'; exact absurd hl' (by decide)
end Go.Proofs.Ytnaakklfbegldaa
