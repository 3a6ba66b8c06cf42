/-
  The law's walk: values at the powers of the root, and back.
-/
import Derived.Test.YtnlnbikiocdpdaaDoorNtM
namespace Go.Proofs.YtnlnbikiocdpdaaDoor
open Go.RowKit F Flow
set_option linter.unusedVariables false
set_option linter.unusedSimpArgs false
attribute [local go_sem] eql_elem

theorem Dk_congr (f : Int) (n : Nat) {C C' : Nat → Int} (P : Nat → Int) (h : ∀ t, t < 2 ^ n → C t = C' t) : ∀ k, k ≤ n → ∀ r j, r < 2 ^ (n - k) → Dk f n C P k r j = Dk f n C' P k r j
  | 0, _, r, j, hr => by rw [Dk, Dk, h r (by rw [Nat.sub_zero] at hr; exact hr)]
  | k + 1, hk, r, j, hr => by
    have hh : 2 ^ (n - k) = 2 * 2 ^ (n - (k + 1)) := by rw [show n - k = n - (k + 1) + 1 by omega, Nat.pow_succ, Nat.mul_comm]
    rw [Dk, Dk, Dk_congr f n P h k (by omega) r j (by omega), Dk_congr f n P h k (by omega) (r + 2 ^ (n - (k + 1))) j (by omega), Dk_congr f n P h k (by omega) r (j - 2 ^ k) (by omega), Dk_congr f n P h k (by omega) (r + 2 ^ (n - (k + 1))) (j - 2 ^ k) (by omega)]
/-- A list's elements in a field. -/
theorem lst_in {f : Int} {G : Nat → Int} {N : Nat} (h : ∀ t, t < N → 0 ≤ G t ∧ G t < M f) : InF f (lst G N) := fun k hk => by
  rw [lst_length] at hk
  rw [lst_at G hk]
  exact h k hk
theorem lim_of {f : Int} {G : Nat → Int} {N : Nat} (h : ∀ t, t < N → 0 ≤ G t ∧ G t < M f) : Lim G N := fun k hk => by
  have := h k hk
  have := M_lt f
  omega
/-- What Values answers of such a list. -/
theorem values_lst {f : Int} (ft : Ft f) (n : Nat) (hn : n ≤ 10) (G : Nat → Int) (N c : Nat) (hN : N = 2 ^ n) (hG : Lim G N) (A : Option Addr) (w : World) (hT : Tabs w) (hA : ElemsAt w A (lst G N)) :
    Calls Tryd.prog 9 #[.int .u8 f, .slice A N c] w (VOut (Dk f n G (power (mul f) (rt f n)) n 0) N w) := by
  have h := values_any ft n hn (lst G N) N c hN (lst_length _ _) hG.ok A w hT hA
  have e : lst (Dk f n (fun i => (lst G N).getD i 0) (power (mul f) (rt f n)) n 0) N = lst (Dk f n G (power (mul f) (rt f n)) n 0) N := lst_congr (fun p hp => Dk_congr f n _ (fun t ht => lst_at G (by rw [hN]; exact ht)) n (Nat.le_refl _) 0 p (by rw [Nat.sub_self]; decide))
  unfold VOut at *
  rw [e] at h
  exact h
/-- What Coefs answers of values. -/
theorem coefs_lst {f : Int} (ft : Ft f) (n : Nat) (hn : n ≤ 10) (hR : RootOf f n (rt f n)) (G : Nat → Int) (N c : Nat) (hN : N = 2 ^ n) (hG : ∀ t, t < N → 0 ≤ G t ∧ G t < M f) (A : Option Addr) (w : World) (hT : Tabs w) (hA : ElemsAt w A (lst (Dk f n G (power (mul f) (rt f n)) n 0) N)) :
    Calls Tryd.prog 13 #[.int .u8 f, .slice A N c] w (VOut G N w) := by
  have hV : ∀ t, t < N → 0 ≤ Dk f n G (power (mul f) (rt f n)) n 0 t ∧ Dk f n G (power (mul f) (rt f n)) n 0 t < M f := fun t _ => Dk_ok _ _ _ _ _ _ _
  refine (coefs_any ft n hn _ N c hN (lst_length _ _) (lim_of hV).ok A w hT hA).mono ?_
  rintro e w' ⟨pt, p0, p1, hone, g, he, hb, hg, hr⟩
  refine ⟨g, he, hb, hg, ?_⟩
  have e2 : lst (fun q => mul f (Dk f n (fun i => (lst (Dk f n G (power (mul f) (rt f n)) n 0) N).getD i 0) (power (mul f) (rt f n)) n 0 ((N - q) % N)) pt) N = lst G N := lst_congr (fun q hq => by
    rw [Dk_congr f n _ (C' := Dk f n G (power (mul f) (rt f n)) n 0) (fun t ht => lst_at _ (by rw [hN]; exact ht)) n (Nat.le_refl _) 0 _ (by rw [Nat.sub_self]; decide)]
    subst hN
    have h18 : 18446744069414584321 ≤ M f := by rcases ft.one2 with rfl | rfl <;> decide
    exact back_eq hR hG (by have := two_le hn; omega) ⟨p0, p1⟩ hone hq)
  rw [← e2]
  exact hr
set_option maxRecDepth 20000 in
set_option maxHeartbeats 4000000 in
theorem nttValues_f (n f : Int) (hF : ∀ w, Calls Tryd.prog 7 #[.int .u8 n] w fun e w' => e = .returned (.int .u8 f) ∧ Below w.heap.size w w') (ft : Ft f) (hR : ∀ m, m ≤ 10 → RootOf f m (rt f m)) (f0 : 0 ≤ f ∧ f ≤ 2)
    (A : Option Addr) (ls : List Int) (N c : Nat) (hl : ls.length = N) (hm : N ≤ maxLen) (hls : ElemsOK ls) (w : World) (hT : Tabs w) (hA : ElemsAt w A ls) :
    Calls Tryd.prog 3 #[.int .u8 n, .slice A N c] w fun e w' => e = .returned (.bool true) ∧ Below w.heap.size w w' := by
  have hw8 : IntKind.i64.wrap f = f := IntWalk.i64_in _ (by omega)
  have hpad := Lib.hid (fun w hA => pad_any f ls A N c hl hm hls w hA)
  unfold PadOut at hpad
  have hM := M_lt f
  replace hF := Lib.hid hF
  clear hl hm hls
  go_enter Tryd.func3, Tryd.ntmps3
  go_wp2_with fail
  refine call_then (nawake _ hT) ?_
  intro w1 hb
  go_wp2_with fail
  refine call_then (hF.out _) ?_
  intro w2 hb2
  replace hb := below_next hb hb.size hb2
  clear hb2
  go_wp2_with fail
  refine call_then (hF.out _) ?_
  intro w2 hb2
  replace hb := below_next hb hb.size hb2
  clear hb2
  go_wp2_with fail
  refine (hpad.out _ (hA.up hb)).mono ?_
  rintro e w2 ⟨m, X, gp, hX, hm4, rfl, hb2, hg, hrp⟩
  replace hb := below_next hb hb.size hb2
  clear hb2 hg hA hpad
  obtain ⟨G, hGe⟩ : ∃ G : Nat → Int, G = fun i => redu f (ls.getD i 0) := ⟨_, rfl⟩
  rw [← hGe] at hrp
  have hG : ∀ t, t < X → 0 ≤ G t ∧ G t < M f := fun t _ => by rw [hGe]; exact ⟨redu_nonneg _ _, redu_lt _ _⟩
  clear hGe
  have hm10 : m ≤ 10 := by omega
  have hX16 : X ≤ 16 := by rw [hX]; exact Nat.pow_le_pow_right (by omega) hm4
  have hX1 : 1 ≤ X := by rw [hX]; exact two_pos m
  have hval := Lib.hid (fun A w hT hA => values_lst ft m hm10 G X X hX (lim_of hG) A w hT hA)
  have hcof := Lib.hid (fun A w hT hA => coefs_lst ft m hm10 (hR m hm10) G X X hX hG A w hT hA)
  have hpts := Lib.hid (npoints_any ft m hm10)
  have hVin : ∀ t, t < X → 0 ≤ Dk f m G (power (mul f) (rt f m)) m 0 t ∧ Dk f m G (power (mul f) (rt f m)) m 0 t < M f := fun t _ => Dk_ok _ _ _ _ _ _ _
  have hPin : ∀ t, t < X → 0 ≤ power (mul f) (rt f m) t ∧ power (mul f) (rt f m) t < M f := fun t _ => by
    rw [power_eq f _ (hR m hm10).lo (hR m hm10).hi]
    exact mod_in f _
  have hat : Hid (∀ i, i < X → ∀ A w, ElemsAt w A (lst G X) → Calls Tryd.prog 12 #[.int .i64 f, .slice A X X, .agg #[.int .u64 (lo (power (mul f) (rt f m) i)), .int .u64 (hi (power (mul f) (rt f m) i))]] w fun e w' => e = .returned (.agg #[.int .u64 (lo (Dk f m G (power (mul f) (rt f m)) m 0 i)), .int .u64 (hi (Dk f m G (power (mul f) (rt f m)) m 0 i))]) ∧ Below w.heap.size w w') := Lib.hid (fun i hi A w hA => by
    have hp := hPin i hi
    have h := rat_any f (power (mul f) (rt f m) i) (lst G X) A X X (lst_length _ _) (by omega) (lst_in hG) hp.1 hp.2 w hA
    have e : pS (power (mul f) (rt f m) i) (lst G X) % M f = Dk f m G (power (mul f) (rt f m)) m 0 i := by
      rw [pS_pf, power_eq f _ (hR m hm10).lo (hR m hm10).hi]
      subst hX
      rw [Dk_whole (hR m hm10) hG hi]
      exact pf_congr (eqm_mod _ _) _ (fun t _ => rfl)
    rw [e] at h
    exact h)
  have hsame := Lib.hid (fun A B w hA hB => rsame_eq (lst G X) A B X X (by rw [lst_length]; omega) w hA hB)
  rw [lst_length] at hsame
  have hllog : Hid (∀ w, Calls Tryd.prog 11 #[.int .i64 (X : Int)] w fun e w' => e = .returned (.int .i64 (m : Int)) ∧ Below w.heap.size w w') := Lib.hid (fun w => (llog_all _ w).mono (by
    rintro e w' ⟨⟨k', hk', he, rfl⟩ | ⟨hno, rfl⟩, hb⟩
    · obtain rfl : k' = m := two_inj (by omega)
      exact ⟨rfl, hb⟩
    · exact absurd (by omega) (hno m hm10)))
  unfold VOut at hval hcof
  unfold PtsOut at hpts
  rw [show powers (mul f) (rt f m) (2 ^ m) = lst (power (mul f) (rt f m)) X by rw [hX]; rfl, ← hX] at hpts
  generalize Dk f m G (power (mul f) (rt f m)) m 0 = V at *
  generalize power (mul f) (rt f m) = P at *
  clear ft hR hX
  go_wp2_with fail
  refine (hval.out _ _ (hT.up hb) hrp.elems).mono ?_
  rintro e w3 ⟨gv, rfl, hb2, hg, hrv⟩
  replace hb := below_next hb hb.size hb2
  replace hrp := hrp.up hb2
  clear hb2 hg hval
  go_wp2_with fail
  refine call_then (hllog.out _) ?_
  intro w4 hb2
  replace hb := below_next hb hb.size hb2
  replace hrp := hrp.up hb2
  replace hrv := hrv.up hb2
  clear hb2 hllog
  go_wp2_with fail
  refine (hpts.out _).mono ?_
  rintro e w5 ⟨gq, rfl, hb2, hg, hrq⟩
  replace hb := below_next hb hb.size hb2
  replace hrp := hrp.up hb2
  replace hrv := hrv.up hb2
  clear hb2 hg hpts
  go_wp2
  go_loopw [62] (fun i wr => ∃ j : Nat, j ≤ X ∧ i = .int .i64 (j : Int) ∧ Below w5.heap.size w5 wr) (fun i _ => X - (intOf i).toNat)
  case atStart => exact ⟨0, Nat.zero_le _, rfl, Below.refl _ _⟩
  case round =>
    obtain ⟨j, hj, rfl, hv⟩ := hrel
    by_cases hlt : j < X
    · have hq := hrq.up hv
      have hvv := hrv.up hv
      have hpp := hrp.up hv
      have c0 := hq.lo (k := j) (by rw [lst_length]; exact hlt)
      have c1 := hq.hi (k := j) (by rw [lst_length]; exact hlt)
      rw [lst_at _ hlt] at c0 c1
      have hatj := Lib.hid (fun w h => hat.out j hlt (some ⟨gp, 0, none⟩) w h)
      generalize P j = x at *
      have i0 : (0 : Int) ≤ (j : Int) := by omega
      have i1 : (j : Int) < (X : Int) := by omega
      have l1 := lt_of_get hq
      have l2 := Nat.ne_of_lt l1
      go_wp2
      have hv2 := hv.alloc hv.size (.cells #[.int .u64 (lo x), .int .u64 (hi x)] 34 (0, 0))
      refine name_wp (fun w6 => Below w5.heap.size w5 w6 ∧ Holds w6 wr.heap.size x) ⟨hv2, alloc_at rfl⟩ ?_
      clear hv2 c0 c1 l1 l2 hv hq hvv hpp
      generalize wr.heap.size = p13 at *
      rintro w6 ⟨hv, kx⟩
      have hvv := hrv.up hv
      have hpp := hrp.up hv
      have a0 := hvv.lo (k := j) (by rw [lst_length]; exact hlt)
      have a1 := hvv.hi (k := j) (by rw [lst_length]; exact hlt)
      rw [lst_at _ hlt] at a0 a1
      generalize V j = y at *
      refine wp_region_flow0 (by kernel_rfl) (by kernel_rfl) ?_
      intro ι _ φ hφ
      obtain ⟨d0, d1⟩ := hφ.two kx
      have b0 := fun i => hφ.cell a0 i
      have b1 := fun i => hφ.cell a1 i
      have hcl := fun i => hatj.out (φ i) (hpp.up (hφ.old i)).elems
      repeat (go_big_quiet_step ((first
        | (go_at_call 12; exact flow_call hφ (hcl _)))))
      refine wpQuiet_nil ?_
      intro w7 hw7
      clear d0 d1 b0 b1 hφ hcl a0 a1
      replace hv := below_next hv hv.size hw7
      clear hw7
      go_wp2
      exact ⟨⟨j + 1, by omega, by go_num, hv⟩, by simp [intOf]; omega⟩
    · obtain rfl : j = X := by omega
      replace hb := below_next hb hb.size hv
      replace hrp := hrp.up hv
      replace hrv := hrv.up hv
      clear hv hrq hat
      go_wp2_with fail
      refine (hcof.out _ _ (hT.up hb) hrv.elems).mono ?_
      rintro e w6 ⟨gb, rfl, hb2, hg, hrb⟩
      replace hb := below_next hb hb.size hb2
      replace hrp := hrp.up hb2
      clear hb2 hg hcof hrv
      go_wp2_with fail
      refine call_then (hsame.out _ _ _ hrb.elems hrp.elems) ?_
      intro w2 hb2
      replace hb := below_next hb hb.size hb2
      clear hb2
      go_wp2
      go_ret
      exact ⟨rfl, hb⟩
end Go.Proofs.YtnlnbikiocdpdaaDoor
