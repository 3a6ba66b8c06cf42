/-
  Values at roots: lists as functions of their places; two halves, joined.
-/
import Derived.Test.YtnlnbikiocdpdaaDoorNtD
import Derived.Test.YtnlnbikiocdpdaaDoorMid
namespace Go.Proofs.YtnlnbikiocdpdaaDoor
open Go.RowKit F Flow
set_option linter.unusedVariables false
set_option linter.unusedSimpArgs false
attribute [local go_sem] eql_elem

/-- A list whose elements are told by a function of their places. -/
def lst (F : Nat → Int) (N : Nat) : List Int := (List.range N).map F
theorem lst_length (F : Nat → Int) (N : Nat) : (lst F N).length = N := by simp [lst]
theorem lst_at (F : Nat → Int) {N k : Nat} (h : k < N) : (lst F N).getD k 0 = F k := by simp [lst, h]
theorem lst_set (F : Nat → Int) {N k : Nat} (z : Int) : (lst F N).set k z = lst (fun p => if p = k then z else F p) N := by
  apply List.ext_getElem (by simp [lst])
  intro i h1 h2
  simp only [lst, List.getElem_set, List.getElem_map, List.getElem_range]
  by_cases e : i = k
  · subst e; simp
  · rw [if_neg (Ne.symm e), if_neg e]
theorem lst_congr {F G : Nat → Int} {N : Nat} (h : ∀ p, p < N → F p = G p) : lst F N = lst G N := by
  apply List.ext_getElem (by simp [lst])
  intro i h1 h2
  simp only [lst, List.getElem_map, List.getElem_range]
  exact h i (by simpa [lst] using h1)
def Lim (F : Nat → Int) (N : Nat) : Prop := ∀ p, p < N → 0 ≤ F p ∧ F p < 340282366920938463463374607431768211456
theorem Lim.ok {F : Nat → Int} {N : Nat} (h : Lim F N) : ElemsOK (lst F N) := fun x hx => by
  obtain ⟨p, hp, rfl⟩ := List.mem_map.1 hx
  exact h p (List.mem_range.1 hp)
/-- What joining has done, so far. -/
def jn (mul add sub : Int → Int → Int) (F P : Nat → Int) (s h st i : Nat) (p : Nat) : Int :=
  if s ≤ p ∧ p < s + i then add (F p) (mul (F (p + h)) (P ((p - s) * st)))
  else if s + h ≤ p ∧ p < s + h + i then sub (F (p - h)) (mul (F p) (P ((p - h - s) * st)))
  else F p
theorem jn_zero (mul add sub : Int → Int → Int) (F P : Nat → Int) (s h st : Nat) : jn mul add sub F P s h st 0 = F := by
  funext p
  unfold jn
  rw [if_neg (by omega), if_neg (by omega)]
theorem jn_step (mul add sub : Int → Int → Int) (F P : Nat → Int) {s h st i : Nat} (hi : i < h) :
    (fun p => if p = s + h + i then sub (F (s + i)) (mul (F (s + h + i)) (P (i * st))) else if p = s + i then add (F (s + i)) (mul (F (s + h + i)) (P (i * st))) else jn mul add sub F P s h st i p) = jn mul add sub F P s h st (i + 1) := by
  funext p
  unfold jn
  by_cases e : p = s + h + i
  · subst e
    rw [if_pos rfl, if_neg (by omega), if_pos (by omega), show s + h + i - h = s + i by omega, show s + i - s = i by omega]
  · rw [if_neg e]
    by_cases e2 : p = s + i
    · subst e2
      rw [if_pos rfl, if_pos (by omega), show s + i + h = s + h + i by omega, show s + i - s = i by omega]
    · rw [if_neg e2]
      by_cases h1 : s ≤ p ∧ p < s + i
      · rw [if_pos h1, if_pos (show s ≤ p ∧ p < s + (i + 1) by omega)]
      · rw [if_neg h1, if_neg (show ¬ (s ≤ p ∧ p < s + (i + 1)) by omega)]
        by_cases h2 : s + h ≤ p ∧ p < s + h + i
        · rw [if_pos h2, if_pos (show s + h ≤ p ∧ p < s + h + (i + 1) by omega)]
        · rw [if_neg h2, if_neg (show ¬ (s + h ≤ p ∧ p < s + h + (i + 1)) by omega)]
/-- What is still to be done stands as it was. -/
theorem jn_at (mul add sub : Int → Int → Int) (F P : Nat → Int) {s h st i : Nat} (hi : i < h) : jn mul add sub F P s h st i (s + i) = F (s + i) ∧ jn mul add sub F P s h st i (s + h + i) = F (s + h + i) := by
  unfold jn
  rw [if_neg (by omega), if_neg (by omega), if_neg (by omega), if_neg (by omega)]
  exact ⟨rfl, rfl⟩
theorem Flow.But.put {p q o : Nat} {w w' : World} (h : But p w w') (hq : w.heap.size ≤ q) (v : Value) : But p w (w'.setCell ⟨q, o, none⟩ v) :=
  ⟨h.os, h.tape, h.output, by simp [World.setCell]; exact h.size, fun k hk hne => (Below.heap_setCell _ _ _ _ (by show k ≠ q; omega)).trans (h.block k hk hne)⟩
set_option maxRecDepth 20000 in
set_option maxHeartbeats 4000000 in
theorem join_any {f : Int} (ft : Ft f) (g gp : Nat) (hne : gp ≠ g) (F P : Nat → Int) (N s h st S c cp : Nat) (hF : Lim F N) (hP : Lim P N) (hN : N ≤ 1024) (h1 : 1 ≤ h) (hS : S = 2 * h) (hs : s + 2 * h ≤ N) (hst : N = 2 * h * st) (w : World)
    (hr : Row w g (lst F N)) (hp : Row w gp (lst P N)) :
    Calls Tryd.prog 21 #[.int .u8 f, .slice (some ⟨g, s * 2, none⟩) S c, .slice (some ⟨gp, 0, none⟩) N cp] w fun e w' => e = .returned (.tuple #[]) ∧ But g w w' ∧ Row w' g (lst (jn (mul f) (add f) (sub f) F P s h st h) N) := by
  have hst1 : 2 * (h * st) ≤ 1024 := by rw [← Nat.mul_assoc]; omega
  have hst3 : st ≤ 1024 := Nat.le_trans (Nat.le_mul_of_pos_left st h1) (by omega)
  have q1 : (S : Int) / 2 = (h : Int) := by omega
  have q2 : (N : Int).tdiv (S : Int) = (st : Int) := by
    rw [hst, hS, Int.natCast_mul]
    exact Int.mul_tdiv_cancel_left _ (by omega)
  have q3 : wrap64 (st : Int) = (st : Int) := by
    have : (st : Int) ≤ 1024 := by omega
    unfold wrap64
    omega
  have s0 : (0 : Int) < (S : Int) := by omega
  have s1 : (S : Int) ≤ 1024 := by omega
  have hSS : 2 * h ≤ S := by omega
  have l0 := lt_of_get hr
  have lp := lt_of_get hp
  have hmul := Lib.hid ft.hmul
  have hadd := Lib.hid ft.hadd
  have hsub := Lib.hid ft.hsub
  clear ft
  replace hst := Lib.hid hst
  replace hS := Lib.hid hS
  replace hF := Lib.hid hF
  replace hP := Lib.hid hP
  go_enter Tryd.func21, Tryd.ntmps21
  go_wp2
  go_loopw [20] (fun i wr => ∃ j : Nat, j ≤ h ∧ i = .int .i64 (j : Int) ∧ But g w wr ∧ Row wr g (lst (jn (mul f) (add f) (sub f) F P s h st j) N)) (fun i _ => h - (intOf i).toNat)
  case atStart => exact ⟨0, Nat.zero_le _, rfl, But.of_below (Below.refl _ _), by rw [jn_zero]; exact hr⟩
  case round =>
    clear hr
    obtain ⟨j, hj, rfl, hb, hr⟩ := hrel
    by_cases hlt : j < h
    · have hp2 : Row wr gp (lst P N) := (hb.block gp lp hne).trans hp
      obtain ⟨ja, jb⟩ := jn_at (mul f) (add f) (sub f) F P (s := s) (st := st) hlt
      have hjs : j * st < N := by
        have h2 : j * st ≤ h * st := Nat.mul_le_mul_right _ (by omega)
        have h3 : N = 2 * (h * st) := by rw [hst.out, Nat.mul_assoc]
        have h4 : 1 ≤ N := by omega
        omega
      have e0 := hF.out (s + j) (by omega)
      have e1 := hF.out (s + h + j) (by omega)
      have e2 := hP.out (j * st) hjs
      have hstep := Lib.hid (jn_step (mul f) (add f) (sub f) F P (s := s) (st := st) hlt)
      have a0 := hr.lo (k := s + j) (by rw [lst_length]; omega)
      have a1 := hr.hi (k := s + j) (by rw [lst_length]; omega)
      have a2 := hr.lo (k := s + h + j) (by rw [lst_length]; omega)
      have a3 := hr.hi (k := s + h + j) (by rw [lst_length]; omega)
      have a4 := hp2.lo (k := j * st) (by rw [lst_length]; omega)
      have a5 := hp2.hi (k := j * st) (by rw [lst_length]; omega)
      rw [lst_at _ (by omega), ja] at a0 a1
      rw [lst_at _ (by omega), jb] at a2 a3
      rw [lst_at _ (by omega)] at a4 a5
      have hlen : (lst (jn (mul f) (add f) (sub f) F P s h st j) N).length = N := lst_length _ _
      have hfin : Hid (∀ w1 u v, Row w1 g (((lst (jn (mul f) (add f) (sub f) F P s h st j) N).set (s + j) u).set (s + h + j) v) → u = add f (F (s + j)) (mul f (F (s + h + j)) (P (j * st))) → v = sub f (F (s + j)) (mul f (F (s + h + j)) (P (j * st))) → Row w1 g (lst (jn (mul f) (add f) (sub f) F P s h st (j + 1)) N)) := Lib.hid (fun w1 u v hr hu hv => by
        rw [lst_set, lst_set, hu, hv] at hr
        rw [← hstep.out]
        exact hr)
      obtain ⟨hM, hcm⟩ := hmul.out (F (s + h + j)) (P (j * st)) e1.1 e1.2 e2.1 e2.2
      obtain ⟨hA, hca⟩ := hadd.out (F (s + j)) (mul f (F (s + h + j)) (P (j * st))) e0.1 e0.2 hM.1 hM.2
      obtain ⟨hB, hcs⟩ := hsub.out (F (s + j)) (mul f (F (s + h + j)) (P (j * st))) e0.1 e0.2 hM.1 hM.2
      obtain ⟨L, hL⟩ : ∃ L, L = lst (jn (mul f) (add f) (sub f) F P s h st j) N := ⟨_, rfl⟩
      rw [← hL] at hlen hfin hr
      obtain ⟨u, hu⟩ : ∃ u, u = add f (F (s + j)) (mul f (F (s + h + j)) (P (j * st))) := ⟨_, rfl⟩
      obtain ⟨v, hv⟩ : ∃ v, v = sub f (F (s + j)) (mul f (F (s + h + j)) (P (j * st))) := ⟨_, rfl⟩
      rw [← hu] at hca
      rw [← hv] at hcs
      replace hfin := Lib.hid (fun w1 h => hfin.out w1 u v h hu hv)
      clear hu hv hA hB hM hstep ja jb e0 e1 e2 hL
      generalize mul f (F (s + h + j)) (P (j * st)) = m at *
      generalize F (s + j) = a at *
      generalize F (s + h + j) = b at *
      generalize P (j * st) = x at *
      obtain ⟨J, hJ⟩ : ∃ J, J = j * st := ⟨_, rfl⟩
      rw [← hJ] at a4 a5 hjs
      have hJ2 : (j : Int) * (st : Int) = (J : Int) := by rw [hJ]; simp
      replace hJ := Lib.hid hJ
      rw [show (s + j) * 2 = s * 2 + j * 2 by omega] at a0 a1
      rw [show (s + h + j) * 2 = s * 2 + (h + j) * 2 by omega] at a2 a3
      replace hcm := Lib.hid hcm
      replace hca := Lib.hid hca
      replace hcs := Lib.hid hcs
      have i0 : (0 : Int) ≤ (j : Int) := by omega
      have i1 : (j : Int) < (S : Int) := by omega
      have i2 : (h : Int) + (j : Int) < (S : Int) := by omega
      have i3 : (0 : Int) ≤ (h : Int) + (j : Int) := by omega
      have i4 : (J : Int) < (N : Int) := by omega
      have i5 : (0 : Int) ≤ (J : Int) := by omega
      have i6 : (j : Int) < (h : Int) := by omega
      have i7 : (J : Int) ≤ 1024 := by omega
      go_wp2
      refine wp_region_flow3 18 _ _ (.cells #[.int .u64 0, .int .u64 0] 34 (0, 0)) (.cells #[.int .u64 0, .int .u64 0] 34 (0, 0)) (by kernel_rfl) (by kernel_rfl) (by kernel_rfl) rfl rfl rfl rfl (fun _ _ => by simp [go_sem]) (fun _ _ => by simp [go_sem]) ?_
      apply Exists.intro
      refine ⟨fun ι _ φ hφ => ?_, fun w3 p q hw3 hpp hqq hpq kp kq => ?_⟩
      · have c0 := fun i => hφ.cell a0 i
        have c1 := fun i => hφ.cell a1 i
        have c2 := fun i => hφ.cell a2 i
        have c3 := fun i => hφ.cell a3 i
        have c4 := fun i => hφ.cell a4 i
        have c5 := fun i => hφ.cell a5 i
        simp only [List.take_succ_cons, List.take_zero]
        repeat (go_big_quiet_step ((first
          | (go_at_call 29; exact flow_call hφ (hcm.out _)))))
        exact wpQuiet_nil rfl
      have hws : w.heap.size ≤ wr.heap.size := hb.size
      have gp1 : g ≠ p := by have := lt_of_get hr; omega
      have gq1 : g ≠ q := by have := lt_of_get hr; omega
      have lg := lt_of_get hr
      have hpw : w.heap.size ≤ p := by omega
      have hqw : w.heap.size ≤ q := by omega
      replace hb := hb.next hw3
      replace hr := hr.up hw3
      clear hw3 a0 a1 a2 a3 a4 a5 hp2
      obtain ⟨z0, z1, z2, z3⟩ := blk2 kp
      obtain ⟨y0, y1, y2, y3⟩ := blk2 kq
      have hqp : q ≠ p := Ne.symm hpq
      simp only [List.drop_succ_cons, List.drop_zero, Act.put]
      go_wp2_with fail
      refine name_calls (fun w4 => But g w w4 ∧ Row w4 g L ∧ w4.heap[p]? = some (.cells #[.int .u64 (lo a), .int .u64 (hi a)] 34 (0, 0)) ∧ w4.heap[q]? = some (.cells #[.int .u64 (lo m), .int .u64 (hi m)] 34 (0, 0)))
        ⟨(((hb.put hpw _).put hpw _).put hqw _).put hqw _, (hr.far gp1).far gq1, store2_far (store2 kp) hpq, store2 (store2_far kq hqp)⟩ ?_
      clear hb hr kp kq z0 z1 z2 z3 y0 y1 y2 y3
      rintro w4 ⟨hb, hr, kp, kq⟩
      refine call_then (hca.out _) ?_
      intro w5 hb5
      replace hb := hb.next hb5
      replace hr := hr.up hb5
      replace kp := keeps hb5 kp
      replace kq := keeps hb5 kq
      clear hb5
      obtain ⟨z0, z1, _, _⟩ := blk2 kp
      obtain ⟨y0, y1, _, _⟩ := blk2 kq
      have a0 := hr.lo (k := s + j) (by omega)
      have a1 := hr.hi (k := s + j) (by omega)
      have f0 := hr.free ((s + j) * 2)
      have f1 := hr.free ((s + j) * 2 + 1)
      rw [show (s + j) * 2 = s * 2 + j * 2 by omega] at a0 a1 f0 f1
      have hr6 := hr.set (k := s + j) (by omega) u
      rw [show (s + j) * 2 = s * 2 + j * 2 by omega] at hr6
      go_wp2_with fail
      refine name_calls (fun w6 => But g w w6 ∧ Row w6 g (L.set (s + j) u)) ⟨(hb.set _).set _, hr6⟩ ?_
      clear hb hr kp kq z0 z1 y0 y1 a0 a1 f0 f1 hr6
      rintro w6 ⟨hb, hr⟩
      refine call_then (hcs.out _) ?_
      intro w7 hb5
      replace hb := hb.next hb5
      replace hr := hr.up hb5
      clear hb5
      have a0 := hr.lo (k := s + h + j) (by rw [List.length_set]; omega)
      have a1 := hr.hi (k := s + h + j) (by rw [List.length_set]; omega)
      have f0 := hr.free ((s + h + j) * 2)
      have f1 := hr.free ((s + h + j) * 2 + 1)
      rw [show (s + h + j) * 2 = s * 2 + (h + j) * 2 by omega] at a0 a1 f0 f1
      have hr6 := hr.set (k := s + h + j) (by rw [List.length_set]; omega) v
      rw [show (s + h + j) * 2 = s * 2 + (h + j) * 2 by omega] at hr6
      go_wp2
      exact ⟨⟨j + 1, by omega, by go_num, (hb.set _).set _, hfin.out _ hr6⟩, by simp [intOf]; omega⟩
    · obtain rfl : j = h := by omega
      go_wp2
      (try simp only [Exit.inBlock, Exit.then])
      first
        | (refine bodyPost_end (results_none rfl _ _ _) rfl ?_; exact ⟨rfl, hb, hr⟩)
        | (refine bodyPost_ret (results_none rfl _ _ _) rfl ?_; exact ⟨rfl, hb, hr⟩)
end Go.Proofs.YtnlnbikiocdpdaaDoor
