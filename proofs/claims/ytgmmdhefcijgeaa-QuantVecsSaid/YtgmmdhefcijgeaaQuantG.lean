/-
  Plain mathematics: any scale: a number's step, in two ways.
-/
import Derived.Test.YtgmmdhefcijgeaaQuantNear
namespace Go.Proofs.Ytgmmdhefcijgeaa
open Go Ieee
set_option linter.unusedVariables false

abbrev Whl (x : Nat) : Prop := rg x ≤ 9218868437227405312
theorem whl_of {x : Nat} (h : isNan x = false) : Whl x := by
  apply Nat.le_of_not_lt
  intro hlt
  obtain ⟨s, t, e⟩ := read_nan x hlt
  rw [isNan_read, e] at h
  cases h
theorem whl_cases {x : Nat} (h : Whl x) : fin x ∨ Ieee.double.read x = .infinity (sg x) := by
  rcases Nat.lt_or_eq_of_le h with h | h
  · exact .inl h
  · exact .inr (read_inf x h)
theorem rg_inf (s : Bool) : rg (Ieee.double.write (.infinity s)) = 9218868437227405312 := by cases s <;> decide +kernel
theorem whl_inf (s : Bool) : Whl (Ieee.double.write (.infinity s)) := by
  have := rg_inf s
  unfold Whl; omega
theorem whl_num {x : Nat} (h : Whl x) : isNan x = false := by
  rcases whl_cases h with h | h
  · exact nan_fin h
  · rw [isNan_read, h]; rfl
theorem sub_some {x y : Nat} (hx : Whl x) (hy : fin y) : ∃ z, subF x y = some z ∧ Whl z := by
  rcases whl_cases hx with h | h
  · obtain ⟨z, h1, h2⟩ := sub_fin h hy
    exact ⟨z, h1, h2.rounds.1⟩
  · refine ⟨Ieee.double.write (.infinity (sg x)), ?_, whl_inf _⟩
    show ((Ieee.double.read x).sum (Ieee.double.read y).opposite).map Ieee.double.write = _
    rw [h, read_finite y hy]
    rfl
theorem add_some {x y : Nat} (hx : fin x) (hy : Whl y) : ∃ z, addF x y = some z ∧ Whl z ∧ z < 18446744073709551616 := by
  rcases whl_cases hy with h | h
  · obtain ⟨z, h1, h2⟩ := add_fin hx h
    exact ⟨z, h1, h2.rounds.1, h2.small⟩
  · refine ⟨Ieee.double.write (.infinity (sg y)), ?_, whl_inf _, by cases sg y <;> decide +kernel⟩
    show ((Ieee.double.read x).sum (Ieee.double.read y)).map Ieee.double.write = _
    rw [h, read_finite x hx]
    rfl
theorem quo_some {x y : Nat} (hx : Whl x) (hy : fin y) (h0 : 0 < rv (rg y)) : ∃ z, quoF x y = some z ∧ Whl z := by
  rcases whl_cases hx with h | h
  · obtain ⟨z, h1, h2, _⟩ := quo_fin h hy h0
    exact ⟨z, h1, h2.1⟩
  · refine ⟨Ieee.double.write (.infinity (sg x ^^ sg y)), ?_, whl_inf _⟩
    show ((Ieee.double.read x).quotient (52 + 2) (Ieee.double.read y)).map Ieee.double.write = _
    rw [h, read_finite y hy]
    rfl
theorem word_eq {x y : Nat} (h1 : rg x = rg y) (h2 : sg x = sg y) (hx : x < 18446744073709551616) (hy : y < 18446744073709551616) : x = y := by
  unfold rg sg at *
  have : x / 9223372036854775808 = y / 9223372036854775808 := by
    have a : x / 9223372036854775808 < 2 := by omega
    have b : y / 9223372036854775808 < 2 := by omega
    have c : x / 9223372036854775808 % 2 = 1 ↔ y / 9223372036854775808 % 2 = 1 := by
      constructor
      · intro h
        have : (x / 9223372036854775808 % 2 == 1) = true := by simpa using h
        rw [h2] at this; simpa using this
      · intro h
        have : (y / 9223372036854775808 % 2 == 1) = true := by simpa using h
        rw [← h2] at this; simpa using this
    omega
  omega
theorem rv_one : rv (rg 4607182418800017408) = one := by
  have h : (4096 : Int).natAbs = 4096 := rfl
  rw [D_one.rv, one_V, h, Nat.mul_comm]
theorem mul_one {x : Nat} (hx : fin x) (hl : x < 18446744073709551616) : mulF x 4607182418800017408 = some x := by
  obtain ⟨z, h1, h2, h3, h4⟩ := mul_fin hx D_one.fin
  rw [rv_one] at h2
  have hz : rg z = rg x := h2.exact (Nat.le_of_lt hx) rfl
  have hs : sg z = sg x := by
    rw [h3, show sg 4607182418800017408 = false by decide]
    cases sg x <;> rfl
  rw [h1, word_eq hz hs h4 hl]
theorem rest_rung {x : Nat} (hx : fin x) : ∃ r, r < 9218868437227405312 ∧ rv r = rest x := by
  unfold rest rv one
  have hm : mg (rg x) < 9007199254740992 := by unfold mg; split <;> omega
  have hE := E0_eq
  generalize mg (rg x) = m at *
  generalize pl (rg x) = p at *
  by_cases h : p ≤ 1074
  · obtain ⟨d, hd⟩ : ∃ d, E0 = d + p := ⟨E0 - p, by omega⟩
    rw [hd, Nat.pow_add, Nat.mul_mod_mul_right]
    have := Nat.mod_le m (2 ^ d)
    exact exists_rung _ _ (by omega) (by omega)
  · obtain ⟨d, hd⟩ : ∃ d, p = d + E0 := ⟨p - E0, by omega⟩
    rw [hd, Nat.pow_add, ← Nat.mul_assoc, Nat.mul_mod_left]
    exact ⟨0, by decide, rv_zero⟩
theorem lt_fin {x y : Nat} (hx : fin x) (hy : fin y) : od x y = some .lt ↔ kv x < kv y := by
  rw [od_fin hx hy, Option.some.injEq, Int.compare_eq_lt]
theorem gt_fin {x y : Nat} (hx : fin x) (hy : fin y) : od x y = some .gt ↔ kv y < kv x := by
  rw [od_fin hx hy, Option.some.injEq, Int.compare_eq_gt]
theorem eq_fin {x y : Nat} (hx : fin x) (hy : fin y) : od x y = some .eq ↔ kv x = kv y := by
  rw [od_fin hx hy, Option.some.injEq, Int.compare_eq_eq]
theorem kv_zero : kv 0 = 0 := by rw [D_zero.kv]; simp
theorem D_half : D 4602678819172646912 2048 := by
  obtain ⟨z, h1, h2⟩ := D_quo (c := 2048) D_one D_two (by decide) (by decide) (by decide)
  rw [show quoF 4607182418800017408 4611686018427387904 = some 4602678819172646912 by decide +kernel] at h1
  cases h1
  exact h2
theorem half_cmp {rs hf v : Nat} (frs : fin rs) (krs : kv rs = ((v : Nat) : Int)) (dh : D hf 2048) : (one < 2 * v → od rs hf = some .gt) ∧ (one = 2 * v → od rs hf = some .eq) ∧ (2 * v < one → od rs hf = some .lt) := by
  have hk : kv hf = 2048 * (V : Int) := dh.kv
  have ho := one_V
  generalize V = u at *
  generalize one = o at *
  refine ⟨fun h => (gt_fin frs dh.fin).2 ?_, fun h => (eq_fin frs dh.fin).2 ?_, fun h => (lt_fin frs dh.fin).2 ?_⟩ <;> rw [krs, hk] <;> omega
/-- What the document's answer makes of a quotient. -/
def RefFalls (q fN : Nat) (n m : Int) : Prop := (od q 0 ≠ some .gt ∧ m = 0) ∨ (od q 0 = some .gt ∧ (od q fN == some .gt || od q fN == some .eq) = true ∧ m = n) ∨
  (od q 0 = some .gt ∧ (od q fN == some .gt || od q fN == some .eq) = false ∧ ∃ (dn : Int) (rs : Nat), 0 ≤ dn ∧ dn < 1073741824 ∧ floatToIntVal .f64 q .u32 = some dn ∧ subF q (floatOfInt .f64 dn) = some rs ∧
    ((od rs 4602678819172646912 = some .gt ∧ m = dn + 1) ∨ (od rs 4602678819172646912 = some .eq ∧ dn % 2 = 1 ∧ m = dn + 1) ∨ (od rs 4602678819172646912 = some .eq ∧ dn % 2 ≠ 1 ∧ m = dn) ∨ (od rs 4602678819172646912 = some .lt ∧ m = dn)))
theorem D_intN {n : Nat} (hn : n ≤ 1073741824) : fin (floatOfInt .f64 (n : Int)) ∧ rv (rg (floatOfInt .f64 (n : Int))) = n * one ∧ kv (floatOfInt .f64 (n : Int)) = ((n * one : Nat) : Int) := by
  have h := D_int (n : Int) (by omega)
  have e : rv (rg (floatOfInt .f64 (n : Int))) = n * one := by
    rw [h.rv, one_V, show ((n : Int) * 4096).natAbs = n * 4096 by omega, Nat.mul_assoc, Nat.mul_comm 4096]
  refine ⟨h.fin, e, ?_⟩
  have hv : ((V * 4096 : Nat) : Int) = 4096 * (V : Int) := by omega
  rw [h.kv, one_V, Int.natCast_mul, hv, Int.mul_assoc]
theorem falls_D' {r : Nat} {n m : Int} (hr : D r (m * 4096)) (hn : 1 ≤ n ∧ n ≤ 1073741824) (hm : 0 ≤ m ∧ m ≤ n) : Falls r (floatOfInt .f64 n) n m := by
  have dn := D_int n (by omega)
  refine .inr (.inr ⟨?_, ?_, D_toInt hr (by show (0 : Int) ≤ m; omega) (by show m ≤ 4294967295; omega)⟩)
  · rw [D_order hr D_zero]
    intro e
    have := Int.compare_eq_lt.1 (Option.some.inj e)
    omega
  · rw [D_order hr dn]
    intro e
    have := Int.compare_eq_gt.1 (Option.some.inj e)
    omega
theorem falls_gen {q : Nat} (hq : Whl q) {n : Nat} (hn : 1 ≤ n ∧ n ≤ 1073741824) : ∃ (r m : Nat), (∀ w, (callFunc 27 #[.float .f64 q]).run Try.prog w = .ok (.value (.float .f64 r)) w) ∧ Falls r (floatOfInt .f64 (n : Int)) n m ∧ RefFalls q (floatOfInt .f64 (n : Int)) n m ∧ m ≤ n := by
  obtain ⟨nf, nr', nk⟩ := D_intN hn.2
  have hone := one_pos
  rcases whl_cases hq with hf | hi
  · obtain ⟨r, h1, h2, h3, h4⟩ := even_fin hf
    have hrun : ∀ w, (callFunc 27 #[.float .f64 q]).run Try.prog w = .ok (.value (.float .f64 r)) w := fun w => by rw [round_ext q w (not_nan_fin hf), h1]
    by_cases hpos : 0 < kv q
    · have hs : sg q = false := by
        cases hs : sg q with
        | false => rfl
        | true => unfold kv at hpos; rw [hs] at hpos; simp at hpos; omega
      have hkq : kv q = ((rv (rg q) : Nat) : Int) := kv_plain hs
      have hgt : od q 0 = some .gt := (gt_fin hf D_zero.fin).2 (by rw [kv_zero]; exact hpos)
      have hdm : one * wh q + rest q = rv (rg q) := Nat.div_add_mod _ _
      have hrl : rest q < one := Nat.mod_lt _ one_pos
      rw [hs] at h3
      by_cases hge : n * one ≤ rv (rg q)
      · have hM : n ≤ evn q := by
          have : n ≤ wh q := (Nat.le_div_iff_mul_le one_pos).2 hge
          unfold evn; omega
        have hrr : rg (floatOfInt .f64 (n : Int)) ≤ rg r := (h2.2 _).2 (Nat.le_of_lt nf) (by rw [nr', Nat.mul_one]; exact Nat.mul_le_mul_right _ hM)
        have hrv := rv_le hrr
        rw [nr'] at hrv
        have hno : one ≤ n * one := Nat.le_mul_of_pos_left _ (by omega)
        have href : RefFalls q (floatOfInt .f64 (n : Int)) n n := by
          refine .inr (.inl ⟨hgt, ?_, rfl⟩)
          rw [od_fin hf nf, nk, hkq]
          rcases Nat.lt_or_eq_of_le hge with h | h
          · rw [Int.compare_eq_gt.2 (by omega)]; rfl
          · rw [Int.compare_eq_eq.2 (by omega)]; rfl
        refine ⟨r, n, hrun, ?_, href, Nat.le_refl _⟩
        rcases Nat.lt_or_eq_of_le h2.1 with hfr | hfr
        · have fr : fin r := hfr
          have hkr : kv r = ((rv (rg r) : Nat) : Int) := kv_plain h3
          have hnl : od r 0 ≠ some .lt := fun e => by
            have := (lt_fin fr D_zero.fin).1 e
            rw [kv_zero, hkr] at this; omega
          by_cases heq : rv (rg r) = n * one
          · refine .inr (.inr ⟨hnl, fun e => ?_, ?_⟩)
            · have := (gt_fin fr nf).1 e
              rw [nk, hkr, heq] at this; omega
            · have hw : wh r = n := by unfold wh; rw [heq, Nat.mul_div_cancel _ one_pos]
              have e : (if sg r then -(wh r : Int) else (wh r : Int)) = (n : Int) := by rw [h3, hw]; rfl
              have := toVal_fin fr (k := .u32) (by rw [e]; show (0 : Int) ≤ (n : Int); omega) (by rw [e]; show (n : Int) ≤ 4294967295; omega)
              rw [e] at this; exact this
          · refine .inr (.inl ⟨hnl, (gt_fin fr nf).2 ?_, rfl⟩)
            rw [nk, hkr]; omega
        · have hs' : (r / 9223372036854775808 % 2 == 1) = false := h3
          refine .inr (.inl ⟨?_, ?_, rfl⟩)
          · show (Ieee.double.read r).order (Ieee.double.read 0) ≠ _
            rw [read_inf r hfr, read_finite 0 D_zero.fin, hs']
            intro e; cases e
          · show (Ieee.double.read r).order (Ieee.double.read _) = _
            rw [read_inf r hfr, read_finite _ nf, hs']; rfl
      · have hM : evn q ≤ n := evn_le (by omega)
        have dr := word_D ⟨h2, h3, h4⟩ (by omega)
        simp only [Bool.false_eq_true, if_false] at dr
        have hwn : wh q < n := by
          unfold wh
          exact (Nat.div_lt_iff_lt_mul one_pos).2 (by omega)
        have hW : wh q ≤ 1073741824 := by omega
        obtain ⟨wf, wr', wk⟩ := D_intN hW
        obtain ⟨rs, s1, s2⟩ := sub_fin hf wf
        obtain ⟨r0, hr0, hv0⟩ := rest_rung hf
        have hdif : kv q - kv (floatOfInt .f64 (wh q : Int)) = ((rest q : Nat) : Int) := by
          rw [hkq, wk]
          have : wh q * one = one * wh q := Nat.mul_comm _ _
          omega
        rw [hdif] at s2
        obtain ⟨frs, krs, _⟩ := s2.is hr0 (by rw [hv0]; omega)
        obtain ⟨hc1, hc2, hc3⟩ := half_cmp frs krs D_half
        have hfl : Falls r (floatOfInt .f64 (n : Int)) n (evn q : Int) := falls_D' dr (by omega) (by omega)
        refine ⟨r, evn q, hrun, hfl, .inr (.inr ⟨hgt, ?_, (wh q : Int), rs, by omega, by omega, ?_, s1, ?_⟩), hM⟩
        · have h5 : od q (floatOfInt .f64 (n : Int)) = some .lt := (lt_fin hf nf).2 (by rw [hkq, nk]; omega)
          rw [h5]; rfl
        · have e : (if sg q then -(wh q : Int) else (wh q : Int)) = (wh q : Int) := by rw [hs]; rfl
          have := toVal_fin hf (k := .u32) (by rw [e]; show (0 : Int) ≤ (wh q : Int); omega) (by rw [e]; show (wh q : Int) ≤ 4294967295; omega)
          rw [e] at this; exact this
        · unfold evn
          rcases Nat.lt_trichotomy one (2 * rest q) with h | h | h
          · refine .inl ⟨hc1 h, ?_⟩
            rw [if_pos (.inl h)]; omega
          · by_cases ho : wh q % 2 = 1
            · refine .inr (.inl ⟨hc2 h, by omega, ?_⟩)
              rw [if_pos (.inr ⟨h, ho⟩)]; omega
            · refine .inr (.inr (.inl ⟨hc2 h, by omega, ?_⟩))
              rw [if_neg (by rintro (h6 | ⟨_, h6⟩) <;> omega)]; omega
          · refine .inr (.inr (.inr ⟨hc3 h, ?_⟩))
            rw [if_neg (by rintro (h6 | ⟨h6, _⟩) <;> omega)]; omega
    · have hng : od q 0 ≠ some .gt := fun e => hpos (by have := (gt_fin hf D_zero.fin).1 e; rwa [kv_zero] at this)
      refine ⟨r, 0, hrun, ?_, .inl ⟨hng, rfl⟩, Nat.zero_le _⟩
      by_cases h0 : rg r = 0
      · have fr : fin r := by unfold Go.Proofs.Ytgmmdhefcijgeaa.fin; omega
        have hkr : kv r = 0 := by unfold kv; rw [h0, rv_zero]; simp
        refine .inr (.inr ⟨fun e => ?_, fun e => ?_, ?_⟩)
        · have := (lt_fin fr D_zero.fin).1 e
          rw [kv_zero, hkr] at this; omega
        · have := (gt_fin fr nf).1 e
          rw [nk, hkr] at this; omega
        · have hw : wh r = 0 := by unfold wh; rw [h0, rv_zero, Nat.zero_div]
          have e : (if sg r then -(wh r : Int) else (wh r : Int)) = 0 := by rw [hw]; simp
          have := toVal_fin fr (k := .u32) (by rw [e]; decide) (by rw [e]; decide)
          rw [e] at this; exact this
      · have hs : sg q = true := by
          cases hs : sg q with
          | true => rfl
          | false =>
            exfalso; apply h0
            have hz : rv (rg q) = 0 := by
              have := kv_plain hs
              omega
            have he : evn q = 0 := by
              unfold evn wh rest
              rw [hz, Nat.zero_div, Nat.zero_mod, if_neg (by omega)]
            have : rg r ≤ 0 := (h2.2 0).1 (by rw [he, Nat.zero_mul]; exact Nat.zero_le _)
            omega
        rw [hs] at h3
        refine .inl ⟨?_, rfl⟩
        rcases Nat.lt_or_eq_of_le h2.1 with hfr | hfr
        · have fr : fin r := hfr
          refine (lt_fin fr D_zero.fin).2 ?_
          rw [kv_zero]
          have h5 : rv 0 < rv (rg r) := rv_lt (by omega)
          rw [rv_zero] at h5
          unfold kv; rw [h3]; simp; omega
        · have hs' : (r / 9223372036854775808 % 2 == 1) = true := h3
          show (Ieee.double.read r).order (Ieee.double.read 0) = _
          rw [read_inf r hfr, read_finite 0 D_zero.fin, hs']; rfl
  · have hd : FloatKind.f64.decode q = .infinity (sg q) := hi
    have hrun := fun w => round_ext q w (fun s t e => by rw [hd] at e; cases e)
    rw [hd] at hrun
    cases hs : sg q with
    | true =>
      rw [hs] at hrun hi
      refine ⟨_, 0, hrun, .inl ⟨by decide +kernel, rfl⟩, .inl ⟨?_, rfl⟩, Nat.zero_le _⟩
      show (Ieee.double.read q).order (Ieee.double.read 0) ≠ _
      rw [hi, read_finite 0 D_zero.fin]
      intro e; cases e
    | false =>
      rw [hs] at hrun hi
      have hw : Ieee.double.read (FloatKind.f64.encode (Datum.integral .even (.infinity false))) = .infinity false := by decide +kernel
      refine ⟨_, n, hrun, .inr (.inl ⟨by decide +kernel, ?_, rfl⟩), .inr (.inl ⟨?_, ?_, rfl⟩), Nat.le_refl _⟩
      · show (Ieee.double.read _).order (Ieee.double.read _) = _
        rw [hw, read_finite _ nf]; rfl
      · show (Ieee.double.read q).order (Ieee.double.read 0) = _
        rw [hi, read_finite 0 D_zero.fin]; rfl
      · show ((Ieee.double.read q).order (Ieee.double.read _) == some .gt || (Ieee.double.read q).order (Ieee.double.read _) == some .eq) = true
        rw [hi, read_finite _ nf]; rfl
end Go.Proofs.Ytgmmdhefcijgeaa
