/-
  Plain mathematics: the number below which there is such a share.
-/
import Derived.Test.YtnaakklfbegldaaDy
import Derived.Test.YtnaakklfbegldaaStL
import Derived.Test.YtnaakklfbegldaaStA
namespace Go.Proofs.Ytnaakklfbegldaa
open Go Ieee
set_option linter.unusedVariables false

theorem D_one : D 4607182418800017408 4096 := by
  have h := D_int 1 (by decide)
  rw [show floatOfInt .f64 1 = 4607182418800017408 by decide +kernel] at h
  exact h
theorem kv_one : kv 4607182418800017408 = (one : Int) := by
  rw [D_one.kv, one_V]; omega
theorem fin_zero : fin 0 := D_zero.fin
theorem kv_zero : kv 0 = 0 := by rw [D_zero.kv]; simp
theorem sg_int (n : Nat) : sg (floatOfInt .f64 (n : Int)) = false := by
  obtain ⟨h1, h2, h3⟩ := near_parts (decide ((n : Int) < 0)) (n : Int).natAbs 0
  show sg (Ieee.double.nearest (decide ((n : Int) < 0)) (n : Int).natAbs 0) = false
  rw [h2]
  simp
theorem rv_int {n : Nat} (hn : n < 1048576) : fin (floatOfInt .f64 (n : Int)) ∧ rv (rg (floatOfInt .f64 (n : Int))) = n * one ∧ kv (floatOfInt .f64 (n : Int)) = ((n * one : Nat) : Int) := by
  have h := D_int (n : Int) (by omega)
  have h1 := h.rv
  have e : rv (rg (floatOfInt .f64 (n : Int))) = n * one := by
    rw [h1, one_V, show ((n : Int) * 4096).natAbs = n * 4096 by omega, Nat.mul_assoc, Nat.mul_comm 4096]
  refine ⟨h.fin, e, ?_⟩
  unfold kv
  rw [sg_int, e]
  rfl
/-- A share that may be. -/
structure Share (p : Nat) : Prop where
  fin : fin p
  lo : 0 ≤ kv p
  hi : kv p ≤ (one : Int)
theorem share_of {p : Nat} (h0 : isNan p = false) (h1 : od p 0 ≠ some .lt) (h2 : od p 4607182418800017408 ≠ some .gt) : Share p := by
  have hf : Go.Proofs.Ytnaakklfbegldaa.fin p := by
    rcases Nat.lt_or_eq_of_le (not_nan h0) with h | h
    · exact h
    · exfalso
      have z : Ieee.double.read 0 = .number false 0 (-1074) := by decide +kernel
      have o : Ieee.double.read 4607182418800017408 = .number false 4503599627370496 (-52) := by decide +kernel
      have e1 : od p 0 = (Ieee.double.read p).order (Ieee.double.read 0) := rfl
      have e2 : od p 4607182418800017408 = (Ieee.double.read p).order (Ieee.double.read 4607182418800017408) := rfl
      rw [read_inf p h, z] at e1
      rw [read_inf p h, o] at e2
      cases hs : (p / 9223372036854775808 % 2 == 1) with
      | true => rw [hs] at e1; exact h1 e1
      | false => rw [hs] at e2; exact h2 e2
  rw [od_fin hf fin_zero, kv_zero] at h1
  rw [od_fin hf D_one.fin, kv_one] at h2
  refine ⟨hf, ?_, ?_⟩
  · exact Int.not_lt.1 fun h => h1 (by rw [Int.compare_eq_lt.2 h])
  · exact Int.not_lt.1 fun h => h2 (by rw [Int.compare_eq_gt.2 h])
/-- Where a share stands among so many. -/
structure PlaceIs (p n1 pc fl i : Nat) : Prop where
  mul : mulF p (floatOfInt .f64 (n1 : Int)) = some pc
  num : ∀ s t, FloatKind.f64.decode pc ≠ .nan s t
  floor : FloatKind.f64.encode ((FloatKind.f64.decode pc).integral .down) = fl
  toInt : floatToIntVal .f64 fl .i64 = some (i : Int)
  le : i ≤ n1
  same : (od pc fl == some .eq) = decide (rest pc = 0)
  up : ∀ j : Nat, j ≤ 1000 → (od (floatOfInt .f64 (j : Int)) pc == some .lt || od (floatOfInt .f64 (j : Int)) pc == some .eq) = decide (j ≤ i)
  at' : (od (floatOfInt .f64 (i : Int)) pc != some .eq) = !decide (rest pc = 0)
  word : rest pc ≠ 0 → fl = floatOfInt .f64 (i : Int)
  fin : fin pc
  finl : Go.Proofs.Ytnaakklfbegldaa.fin fl
  dif : kv pc - kv fl = (rest pc : Int)
theorem word_eq {x y : Nat} (h1 : rg x = rg y) (h2 : sg x = sg y) (hx : x < 18446744073709551616) (hy : y < 18446744073709551616) : x = y := by
  unfold rg sg at *
  have : x / 9223372036854775808 = y / 9223372036854775808 := by
    have a : x / 9223372036854775808 < 2 := by omega
    have b : y / 9223372036854775808 < 2 := by omega
    have c : x / 9223372036854775808 % 2 = 1 ↔ y / 9223372036854775808 % 2 = 1 := by
      constructor
      · intro h
        have : (x / 9223372036854775808 % 2 == 1) = true := by simpa using h
        rw [h2] at this; simpa using this
      · intro h
        have : (y / 9223372036854775808 % 2 == 1) = true := by simpa using h
        rw [← h2] at this; simpa using this
    omega
  omega
theorem place_is {p n1 : Nat} (h : Share p) (hn : n1 ≤ 999) : ∃ pc fl i, PlaceIs p n1 pc fl i := by
  obtain ⟨f1, f2, f3⟩ := rv_int (n := n1) (by omega)
  obtain ⟨pc, h1, h2, h3, h4⟩ := mul_fin h.fin f1
  rw [f2] at h2
  rw [sg_int] at h3
  have h3' : sg pc = sg p := by rw [h3]; cases sg p <;> rfl
  have hp1 : rv (rg p) ≤ one := by
    have e := kv_abs p
    have := h.lo
    have := h.hi
    omega
  have hneg : sg p = true → rv (rg p) = 0 := fun hs => by
    have h5 := h.lo
    unfold kv at h5
    rw [hs] at h5
    simp at h5
    omega
  obtain ⟨r1, hr1, hv1⟩ := rung_V (n1 * 4096) (by omega)
  have hv1' : rv r1 = n1 * one := by rw [hv1, one_V, Nat.mul_assoc, Nat.mul_comm 4096]
  have hle : rg pc ≤ r1 := (h2.2 r1).1 (by
    rw [hv1', Nat.mul_comm (n1 * one)]
    exact Nat.mul_le_mul_right _ hp1)
  have hR := rv_le hle
  rw [hv1'] at hR
  have hfin : Go.Proofs.Ytnaakklfbegldaa.fin pc := by unfold Go.Proofs.Ytnaakklfbegldaa.fin; omega
  have hnegc : sg pc = true → rv (rg pc) = 0 := fun hs => by
    have hz := hneg (h3' ▸ hs)
    have : rg pc ≤ 0 := (h2.2 0).1 (by rw [hz, Nat.zero_mul]; exact Nat.zero_le _)
    have : rg pc = 0 := by omega
    rw [this, rv_zero]
  have hkc : kv pc = ((rv (rg pc) : Nat) : Int) := by
    unfold kv
    cases hs : sg pc with
    | true => rw [hnegc hs]; simp
    | false => rfl
  obtain ⟨fl, g1, g2, g3, g4⟩ := floor_fin hfin
  have hdown : down pc = wh pc := by
    unfold down
    rw [if_neg]
    · rfl
    · rintro ⟨hs, hr⟩
      apply hr
      unfold rest
      rw [hnegc hs, Nat.zero_mod]
  rw [hdown] at g2
  have hi : wh pc ≤ n1 := by
    unfold wh
    have := Nat.div_le_div_right (c := one) hR
    rwa [Nat.mul_div_cancel _ one_pos] at this
  obtain ⟨i, hie⟩ : ∃ i, i = wh pc := ⟨_, rfl⟩
  rw [← hie] at g2 hi
  obtain ⟨k1, k2, k3⟩ := rv_int (n := i) (by omega)
  have hrg : rg fl = rg (floatOfInt .f64 (i : Int)) := g2.exact (Nat.le_of_lt k1) (by rw [k2, Nat.mul_one])
  have hfl : Go.Proofs.Ytnaakklfbegldaa.fin fl := by unfold Go.Proofs.Ytnaakklfbegldaa.fin at *; rw [hrg]; exact k1
  have hrvl : rv (rg fl) = i * one := by rw [hrg, k2]
  have hneg0 : sg fl = true → i = 0 := fun hs => by
    rw [g3] at hs
    rw [hie]; unfold wh
    rw [hnegc hs, Nat.zero_div]
  have hkl : kv fl = ((i * one : Nat) : Int) := by
    unfold kv
    rw [hrvl]
    cases hs : sg fl with
    | true => rw [hneg0 hs]; simp
    | false => rfl
  have hdm : one * i + rest pc = rv (rg pc) := by rw [hie]; exact Nat.div_add_mod _ _
  have hrl : rest pc < one := Nat.mod_lt _ one_pos
  have hio : i * one = one * i := Nat.mul_comm _ _
  have hwl : wh fl = i := by unfold wh; rw [hrvl, Nat.mul_div_cancel _ one_pos]
  have hsame : compare (kv pc) (kv fl) = .eq ↔ rest pc = 0 := by
    rw [Int.compare_eq_eq, hkc, hkl]
    omega
  refine ⟨pc, fl, i, ⟨h1, ?_, g1, ?_, hi, ?_, ?_, ?_, ?_, hfin, hfl, by rw [hkc, hkl]; omega⟩⟩
  · intro s t e
    have : Ieee.double.read pc = .nan s t := e
    rw [read_finite pc hfin] at this
    cases this
  · have e : (if sg fl then -(wh fl : Int) else (wh fl : Int)) = (i : Int) := by
      rw [hwl]
      cases hs : sg fl with
      | true => rw [hneg0 hs]; simp
      | false => rfl
    have := toVal_fin hfl (k := .i64) (by rw [e]; show (-9223372036854775808 : Int) ≤ (i : Int); omega) (by rw [e]; show (i : Int) ≤ 9223372036854775807; omega)
    rw [e] at this
    exact this
  · rw [od_fin hfin hfl]
    by_cases hr : rest pc = 0
    · rw [hsame.2 hr]; simp [hr]
    · have : compare (kv pc) (kv fl) ≠ .eq := fun e => hr (hsame.1 e)
      rw [decide_eq_false hr]
      simpa using this
  · intro j hj
    obtain ⟨j1, j2, j3⟩ := rv_int (n := j) (by omega)
    rw [od_fin j1 hfin, j3, hkc]
    by_cases hji : j ≤ i
    · rw [decide_eq_true hji]
      have h5 : j * one ≤ rv (rg pc) := by
        have := Nat.mul_le_mul_right one hji
        omega
      rcases Nat.lt_or_eq_of_le h5 with h6 | h6
      · rw [Int.compare_eq_lt.2 (by omega)]; rfl
      · rw [Int.compare_eq_eq.2 (by omega)]; rfl
    · rw [decide_eq_false hji]
      have h5 : (i + 1) * one ≤ j * one := Nat.mul_le_mul_right _ (by omega)
      rw [Nat.add_mul, Nat.one_mul] at h5
      rw [Int.compare_eq_gt.2 (by omega)]; rfl
  · rw [od_fin k1 hfin, k3, hkc]
    by_cases hr : rest pc = 0
    · rw [Int.compare_eq_eq.2 (by omega), decide_eq_true hr]; rfl
    · rw [decide_eq_false hr]
      have : compare ((i * one : Nat) : Int) ((rv (rg pc) : Nat) : Int) ≠ .eq := fun e => by
        have := Int.compare_eq_eq.1 e
        omega
      simpa using this
  · intro hr
    refine word_eq hrg ?_ g4 ?_
    · rw [sg_int, g3]
      cases hs : sg pc with
      | false => rfl
      | true =>
        exfalso; apply hr; unfold rest
        rw [hnegc hs, Nat.zero_mod]
    · exact (D_int (i : Int) (by omega)).small
abbrev isinfF (d : Nat) : Bool := od (d % 9223372036854775808) 9218868437227405311 == some .gt
/-- What lies between two numbers is no number, nothing, or beyond all. -/
def StopD (d : Nat) : Prop := ((od d 0 == some .eq) = true ∨ ((od d 0 == some .eq) = false ∧ (isinfF d = true ∨ (isinfF d = false ∧ isNan d = true)))) ∧
  ((od d 0 == some .gt) = false ∨ ((od d 0 == some .gt) = true ∧ leF d 9218868437227405311 = false))
structure GoD (d : Nat) : Prop where
  ne : (od d 0 == some .eq) = false
  inf : isinfF d = false
  nan : isNan d = false
  gt : (od d 0 == some .gt) = true
  le : leF d 9218868437227405311 = true
  fin : fin d
theorem sg_bare (x : Nat) : sg (x % 9223372036854775808) = false := by
  unfold sg
  rw [show x % 9223372036854775808 / 9223372036854775808 = 0 by omega]; rfl
theorem fin_bare {x : Nat} (h : fin x) : fin (x % 9223372036854775808) := by
  unfold Go.Proofs.Ytnaakklfbegldaa.fin rg at *
  omega
theorem kv_plain {x : Nat} (h : sg x = false) : kv x = (rv (rg x) : Int) := by
  unfold kv; rw [h]; rfl
theorem fin_max : fin 9218868437227405311 := by unfold Go.Proofs.Ytnaakklfbegldaa.fin; decide
theorem sg_max : sg 9218868437227405311 = false := by decide
theorem below_max {x : Nat} (h : fin x) : compare (kv (x % 9223372036854775808)) (kv 9218868437227405311) ≠ .gt := by
  have h2 : rv (rg (x % 9223372036854775808)) ≤ rv (rg 9218868437227405311) := rv_le (by unfold Go.Proofs.Ytnaakklfbegldaa.fin rg at *; omega)
  rw [kv_plain sg_max, kv_plain (sg_bare x)]
  intro e
  have := Int.compare_eq_gt.1 e
  omega
theorem stop_inf {d : Nat} (h : rg d = 9218868437227405312) : StopD d := by
  have z : Ieee.double.read 0 = .number false 0 (-1074) := by decide +kernel
  have e1 : od d 0 = (Ieee.double.read d).order (Ieee.double.read 0) := rfl
  rw [read_inf d h, z] at e1
  have hi : isinfF d = true := by
    unfold isinfF
    rw [show d % 9223372036854775808 = 9218868437227405312 from h]
    decide +kernel
  cases hs : (d / 9223372036854775808 % 2 == 1) with
  | true =>
    rw [hs] at e1
    have e2 : od d 0 = some .lt := e1
    exact ⟨.inr ⟨by rw [e2]; rfl, .inl hi⟩, .inl (by rw [e2]; rfl)⟩
  | false =>
    rw [hs] at e1
    have e2 : od d 0 = some .gt := e1
    refine ⟨.inr ⟨by rw [e2]; rfl, .inl hi⟩, .inr ⟨by rw [e2]; rfl, ?_⟩⟩
    have m : Ieee.double.read 9218868437227405311 = .number false 9007199254740991 971 := by decide +kernel
    have e3 : od d 9218868437227405311 = (Ieee.double.read d).order (Ieee.double.read 9218868437227405311) := rfl
    rw [read_inf d h, m, hs] at e3
    have e4 : od d 9218868437227405311 = some .gt := e3
    unfold leF
    rw [e4]; rfl
theorem rg_inf (s : Bool) : rg (Ieee.double.write (.infinity s)) = 9218868437227405312 := by cases s <;> decide +kernel
theorem dist {x y d : Nat} (hx : isNan x = false) (hy : isNan y = false) (hle : od x y ≠ some .gt) (h : SubsTo y x d) : StopD d ∨ (GoD d ∧ fin x ∧ fin y) := by
  rcases h.is with hd | ⟨_, hn⟩
  · rcases Nat.lt_or_eq_of_le (not_nan hx) with fx | ix
    · rcases Nat.lt_or_eq_of_le (not_nan hy) with fy | iy
      · obtain ⟨z, h1, h2⟩ := sub_fin (x := y) (y := x) fy fx
        rw [hd] at h1
        obtain rfl : d = z := by cases h1; rfl
        rw [od_fin fx fy] at hle
        have hk : kv x ≤ kv y := Int.not_lt.1 fun hlt => hle (by rw [Int.compare_eq_gt.2 hlt])
        rcases Int.lt_or_eq_of_le hk with hlt | heq
        · have hs : sg d = false := h2.pos (by omega)
          have h1r : 1 ≤ rg d := (h2.rounds.2 1).2 (by decide) (by rw [rv_small (by decide)]; omega)
          rcases Nat.lt_or_eq_of_le h2.rounds.1 with hf | hf
          · right
            have fd : fin d := hf
            have hpos : 0 < kv d := by
              rw [kv_plain hs]
              have := rv_le h1r
              rw [rv_small (by decide)] at this
              omega
            have hrg : d % 9223372036854775808 = d := by
              have := h.lt
              unfold sg at hs
              simp at hs
              omega
            have hm := below_max fd
            have o1 : od d 0 = some .gt := by rw [od_fin fd fin_zero, kv_zero, Int.compare_eq_gt.2 hpos]
            refine ⟨⟨by rw [o1]; rfl, ?_, nan_fin fd, by rw [o1]; rfl, ?_, fd⟩, fx, fy⟩
            · unfold isinfF
              rw [od_fin (fin_bare fd) fin_max]
              simpa using hm
            · unfold leF
              rw [od_fin fd fin_max]
              rw [hrg] at hm
              rcases Int.lt_trichotomy (kv d) (kv 9218868437227405311) with hc | hc | hc
              · rw [Int.compare_eq_lt.2 hc]; rfl
              · rw [Int.compare_eq_eq.2 hc]; rfl
              · exact absurd (Int.compare_eq_gt.2 hc) hm
          · exact .inl (stop_inf hf)
        · left
          have h0 : rg d = 0 := h2.rounds.exact (r := 0) (by decide) (by rw [rv_zero]; omega)
          have fd : fin d := by unfold Go.Proofs.Ytnaakklfbegldaa.fin; omega
          have hz : kv d = 0 := by
            unfold kv; rw [h0, rv_zero]; simp
          have o1 : od d 0 = some .eq := by rw [od_fin fd fin_zero, kv_zero, hz]; rw [Int.compare_eq_eq.2 rfl]
          exact ⟨.inl (by rw [o1]; rfl), .inl (by rw [o1]; rfl)⟩
      · left
        apply stop_inf
        have hd' : ((Ieee.double.read y).sum (Ieee.double.read x).opposite).map Ieee.double.write = some d := hd
        rw [read_inf y iy, read_finite x fx] at hd'
        have hd2 : some (Ieee.double.write (.infinity (y / 9223372036854775808 % 2 == 1))) = some d := hd'
        rw [← Option.some.inj hd2]
        exact rg_inf _
    · left
      apply stop_inf
      have hd' : ((Ieee.double.read y).sum (Ieee.double.read x).opposite).map Ieee.double.write = some d := hd
      rw [read_inf x ix] at hd'
      rcases Nat.lt_or_eq_of_le (not_nan hy) with fy | iy
      · rw [read_finite y fy] at hd'
        have hd2 : some (Ieee.double.write (.infinity (!(x / 9223372036854775808 % 2 == 1)))) = some d := hd'
        rw [← Option.some.inj hd2]
        exact rg_inf _
      · rw [read_inf y iy] at hd'
        simp only [Datum.sum, Datum.opposite] at hd'
        split at hd'
        · rw [Option.map_some] at hd'
          rw [← Option.some.inj hd']
          exact rg_inf _
        · cases hd'
  · left
    obtain ⟨s, t, e⟩ := read_nan d hn
    obtain ⟨s2, t2, e2⟩ := read_nan (d % 9223372036854775808) (by omega)
    have o : ∀ k, od d k = none := fun k => by
      show (Ieee.double.read d).order (Ieee.double.read k) = none
      rw [e, order_nan1 _ _ rfl]
    have o2 : od (d % 9223372036854775808) 9218868437227405311 = none := by
      show (Ieee.double.read _).order (Ieee.double.read _) = none
      rw [e2, order_nan1 _ _ rfl]
    refine ⟨.inr ⟨by rw [o]; rfl, .inr ⟨by unfold isinfF; rw [o2]; rfl, by unfold isNan; rw [o]; rfl⟩⟩, .inl (by rw [o]; rfl)⟩
/-- What the program and the law make of a share. -/
inductive PartV (ys : List Num) (p v : Nat) : Prop where
  | here (n1 pc fl i : Nat) (hn : ys.length = n1 + 1) (hp : PlaceIs p n1 pc fl i) (h : rest pc = 0 ∨ i = n1) (hv : v = (ys.getD i default).1)
  | stop (n1 pc fl i : Nat) (hn : ys.length = n1 + 1) (hp : PlaceIs p n1 pc fl i) (h : rest pc ≠ 0) (hi : i < n1) (hd : ∀ d, SubsTo (ys.getD (i + 1) default).1 (ys.getD i default).1 d → StopD d) (hv : v = (ys.getD i default).1)
  | between (n1 pc fl i d u m : Nat) (hn : ys.length = n1 + 1) (hp : PlaceIs p n1 pc fl i) (h : rest pc ≠ 0) (hi : i < n1) (hd : subF (ys.getD (i + 1) default).1 (ys.getD i default).1 = some d) (hg : GoD d) (hu : subF pc fl = some u) (hm : mulF d u = some m) (hv : addF (ys.getD i default).1 m = some v)
theorem part_exists {ys : List Num} {p : Nat} (hs : Share p) (hne : ys ≠ []) (hl : ys.length ≤ 1000) (hA : Ascends ys) : ∃ v, PartV ys p v := by
  obtain ⟨n1, hn⟩ : ∃ n1, ys.length = n1 + 1 := ⟨ys.length - 1, by have : ys.length ≠ 0 := fun h => hne (List.eq_nil_of_length_eq_zero h); omega⟩
  obtain ⟨pc, fl, i, hp⟩ := place_is hs (n1 := n1) (by omega)
  by_cases h : rest pc = 0 ∨ i = n1
  · exact ⟨_, .here n1 pc fl i hn hp h rfl⟩
  have hr : rest pc ≠ 0 := fun e => h (.inl e)
  have hi : i < n1 := by have := hp.le; have : i ≠ n1 := fun e => h (.inr e); omega
  have hxy := hA i (i + 1) (by omega) (by omega)
  generalize hx : ys.getD i default = x at *
  generalize hy : ys.getD (i + 1) default = y at *
  have hle : od x.1 y.1 ≠ some .gt := by
    rw [od_key x.2 y.2]
    intro e
    have h1 := Int.compare_eq_gt.1 (Option.some.inj e)
    unfold key2 at hxy
    revert hxy
    cases sgn x.1 <;> cases sgn y.1 <;> simp <;> omega
  cases hsub : subF y.1 x.1 with
  | none =>
    refine ⟨_, .stop n1 pc fl i hn hp hr hi (fun d hd => ?_) rfl⟩
    rw [hx, hy] at hd
    rcases dist x.2 y.2 hle hd with h | ⟨h, fx, fy⟩
    · exact h
    · obtain ⟨z, h1, _⟩ := sub_fin (x := y.1) (y := x.1) fy fx
      rw [hsub] at h1; cases h1
  | some d =>
    have hd : SubsTo y.1 x.1 d := ⟨sub_small hsub, .inl hsub⟩
    rcases dist x.2 y.2 hle hd with h | ⟨hg, fx, fy⟩
    · refine ⟨_, .stop n1 pc fl i hn hp hr hi (fun d2 hd2 => ?_) rfl⟩
      rw [hx, hy] at hd2
      rcases hd2.is with e | ⟨e, _⟩
      · rw [hsub] at e; cases e; exact h
      · rw [hsub] at e; cases e
    · obtain ⟨u, hu, su⟩ := sub_fin hp.fin hp.finl
      rw [hp.dif] at su
      have hrl : rest pc < one := Nat.mod_lt _ one_pos
      have hru : rg u ≤ rg 4607182418800017408 := (su.rounds.2 _).1 (by
        have := kv_abs 4607182418800017408
        rw [kv_one] at this
        rw [← this]
        omega)
      have hu1 : rv (rg u) ≤ one := by
        have h1 := rv_le hru
        have := kv_abs 4607182418800017408
        rw [kv_one] at this
        omega
      have fu : fin u := by
        have : rg 4607182418800017408 < 9218868437227405312 := by decide
        unfold Go.Proofs.Ytnaakklfbegldaa.fin; omega
      obtain ⟨m, hm, sm, _, _⟩ := mul_fin hg.fin fu
      have fm : fin m := by
        have h1 : rg m ≤ rg d := (sm.2 _).1 (Nat.mul_le_mul_left _ hu1)
        have := hg.fin
        unfold Go.Proofs.Ytnaakklfbegldaa.fin at *; omega
      obtain ⟨v, hv, _⟩ := add_fin fx fm
      exact ⟨v, .between n1 pc fl i d u m hn hp hr hi (by rw [hx, hy]; exact hsub) hg hu hm (by rw [hx]; exact hv)⟩
end Go.Proofs.Ytnaakklfbegldaa
