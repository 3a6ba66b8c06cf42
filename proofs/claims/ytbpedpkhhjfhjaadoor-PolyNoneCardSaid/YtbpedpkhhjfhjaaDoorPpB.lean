/-
  Inverses of a list, in new memory; mathematics of values at a point.
-/
import Derived.Test.YtbpedpkhhjfhjaaDoorPoJ
namespace Go.Proofs.YtbpedpkhhjfhjaaDoor
open Go.RowKit F Flow
set_option linter.unusedVariables false
set_option linter.unusedSimpArgs false
attribute [local go_sem] eql_elem

set_option maxHeartbeats 4000000 in
theorem finvvec_new (f : Int) (xs : List Int) (A : Option Addr) (N c : Nat) (hxs : ElemsOK xs) (hN : xs.length = N) (hm : N ≤ 4096) (hz : redu f (prods f xs N) ≠ 0)
    (hval : ∀ w, Calls Tryd.prog 40 #[.int .u8 f] w fun e w' => e = .returned (.bool true) ∧ Below w.heap.size w w')
    (hone : ∀ w, Calls Tryd.prog 50 #[.int .u8 f] w fun e w' => e = .returned (.agg #[.int .u64 1, .int .u64 0]) ∧ Below w.heap.size w w')
    (hmul : OpBy 26 f (mul f)) (hinv : InvBy f) (w : World) (hA : ElemsAt w A xs) :
    Calls Tryd.prog 57 #[.int .u8 f, .slice A N c] w fun e w' => ∃ g rs, e = .returned (.tuple #[.slice (some ⟨g, 0, none⟩) N N, .int .i64 0]) ∧ Below w.heap.size w w' ∧ w.heap.size ≤ g ∧ Row w' g rs ∧ Inverses f xs rs := by
  have hmk := make_elems N (by omega)
  have hstep : ∀ k, k < N → ∀ w, Calls Tryd.prog 26 #[.int .u8 f, .agg #[.int .u64 (lo (prods f xs k)), .int .u64 (hi (prods f xs k))], .agg #[.int .u64 (lo (xs.getD k 0)), .int .u64 (hi (xs.getD k 0))]] w fun e w' => e = .returned (.agg #[.int .u64 (lo (prods f xs (k + 1))), .int .u64 (hi (prods f xs (k + 1)))]) ∧ Below w.heap.size w w' := fun k hk w => by
    rw [← hN] at hk
    have hx := hxs.at_ hk
    have hp := prods_ok f xs k
    rw [prods_succ hk]
    exact (hmul _ _ hp.1 hp.2 hx.1 hx.2).2 w
  replace hval := Lib.hid hval
  replace hone := Lib.hid hone
  replace hstep := Lib.hid hstep
  replace hN := Lib.hid hN
  replace hmul := Lib.hid hmul
  replace hinv := Lib.hid hinv
  go_enter Tryd.func57, Tryd.ntmps57
  go_wp2_with fail
  refine call_then (hval.out _) ?_
  intro w1 hb
  clear hval
  go_wp2_with fail
  refine name_calls (fun w2 => Below w.heap.size w w2 ∧ Row w2 w1.heap.size (aheads f xs 0 ++ List.replicate (N - 0) 0)) ⟨hb.alloc hb.size _, (show Row _ _ (List.replicate N 0) from alloc_at rfl)⟩ ?_
  have hl := hb.size
  clear hb hmk
  generalize w1.heap.size = l at *
  rintro w2 ⟨hb, hr⟩
  refine call_then (hone.out _) ?_
  intro w3 hw
  replace hb := below_next hb hb.size hw
  replace hr := hr.up hw
  clear hw hone
  go_wp2
  refine name_wp (fun w4 => Below w.heap.size w w4 ∧ Row w4 l (aheads f xs 0 ++ List.replicate (N - 0) 0) ∧ Holds w4 w3.heap.size (prods f xs 0)) ⟨hb.alloc hb.size _, hr.alloc _, alloc_at rfl⟩ ?_
  have hlp := lt_of_get hr
  have hwp := hb.size
  clear hb hr
  generalize w3.heap.size = p at *
  rintro w4 ⟨hb, hr, hp⟩
  go_loopw [26] (fun i wr => ∃ k : Nat, k ≤ N ∧ i = .int .i64 k ∧ Below w.heap.size w wr ∧ Row wr l (aheads f xs k ++ List.replicate (N - k) 0) ∧ Holds wr p (prods f xs k)) (fun i _ => N - (intOf i).toNat)
  case atStart => exact ⟨0, Nat.zero_le _, rfl, hb, hr, hp⟩
  case round =>
    obtain ⟨k, hk, rfl, hb, hr, hp⟩ := hrel
    by_cases hlt : k < N
    · obtain ⟨b1, o1, rfl, ha⟩ := hA.came (k := k) (by rw [hN.out]; exact hlt)
      have c0 := (ha wr hb).1
      have c1 := (ha wr hb).2
      have hc := Lib.hid (hstep.out k hlt)
      have hset := Lib.hid (aheads_set (f := f) (xs := xs) hlt)
      have hlen : k < (aheads f xs k ++ List.replicate (N - k) 0).length := by simp [aheads]; omega
      generalize hSS : prods f xs k = S at *
      generalize hTT : prods f xs (k + 1) = T at *
      replace hSS := Lib.hid hSS
      replace hTT := Lib.hid hTT
      generalize xs.getD k 0 = t at *
      replace ha := Lib.hid ha
      have s0 := hr.lo hlen
      have s1 := hr.hi hlen
      have f0' := hr.free (k * 2)
      have f1' := hr.free (k * 2 + 1)
      obtain ⟨r0, r1, u0, u1⟩ := blk2 hp
      have i0 : (0 : Int) ≤ (k : Int) := by omega
      have i1 : (k : Int) < (N : Int) := by omega
      have n1 : p ≠ l := by omega
      have l1 := lt_of_get hp
      have l2 : p ≠ wr.heap.size := Nat.ne_of_lt l1
      have l3 := lt_of_get hr
      have l4 : l ≠ wr.heap.size := Nat.ne_of_lt l3
      replace hlen := Lib.hid hlen
      go_wp2_with fail
      refine name_calls (fun w6 => Below w.heap.size w w6 ∧ Row w6 l (aheads f xs (k + 1) ++ List.replicate (N - (k + 1)) 0) ∧ Holds w6 p S) ⟨((hb.setCell (p := ⟨l, k * 2, none⟩) hl _).setCell (p := ⟨l, k * 2 + 1, none⟩) hl _).alloc ((hb.setCell (p := ⟨l, k * 2, none⟩) hl _).setCell (p := ⟨l, k * 2 + 1, none⟩) hl _).size _, by rw [← hset.out]; exact (hr.set hlen.out _).alloc _, (hp.far' n1).alloc _⟩ ?_
      clear s0 s1 f0' f1' r0 r1 u0 u1 l1 l2 l3 l4 c0 c1 hb hr hp hset hlen
      rintro w6 ⟨hb, hr, hp⟩
      refine call_then (hc.out _) ?_
      intro w7 hw
      replace hb := below_next hb hb.size hw
      replace hr := hr.up hw
      replace hp := hp.up hw
      clear hw
      obtain ⟨r0, r1, u0, u1⟩ := blk2 hp
      go_wp2
      clear r0 r1 u0 u1
      go_roundw
      case rel => exact ⟨k + 1, hlt, by go_num, below_store2 hb hwp, hr.far (Ne.symm n1), by rw [hTT.out]; exact hp.set _⟩
      case measure => simp [intOf]; omega
    · have hkN : N = k := by omega
      subst hkN
      clear hstep
      obtain ⟨v, hv, hmv, hcv⟩ := (hinv.out _ (prods_ok f xs N).1 (prods_ok f xs N).2).2 hz
      replace hcv := Lib.hid hcv
      clear hinv hz
      have hM := M_lt f
      have hv2 : 0 ≤ v ∧ v < 340282366920938463463374607431768211456 := by omega
      clear hv
      rw [Nat.sub_self, List.replicate_zero] at hr
      replace hmv := Lib.hid hmv
      obtain ⟨r0, r1, u0, u1⟩ := blk2 hp
      go_wp2_with fail
      refine call_then (hcv.out _) ?_
      intro w6 hw
      replace hb := below_next hb hb.size hw
      replace hr := hr.up hw
      clear hw r0 r1 u0 u1 hcv hp
      go_wp2
      refine name_wp (fun w7 => Below w.heap.size w w7 ∧ Row w7 l (aheads f xs N ++ []) ∧ Holds w7 w6.heap.size v) ⟨hb.alloc hb.size _, hr.alloc _, alloc_at rfl⟩ ?_
      have hlq := lt_of_get hr
      have hwq := hb.size
      clear hb hr hlp hwp
      generalize w6.heap.size = q at *
      rintro w7 ⟨hb, hr, hq⟩
      have hBk : Back f xs [] N := ⟨by rw [hN.out]; simp, fun j hj => by rw [hN.out] at hj; omega⟩
      go_loopw [12] (fun i wr => ∃ (k : Nat) (rs : List Int) (y : Int), k ≤ N ∧ i = .int .i64 ((k : Int) - 1) ∧ Below w.heap.size w wr ∧ Row wr l (aheads f xs k ++ rs) ∧ Holds wr q y ∧ (0 ≤ y ∧ y < 340282366920938463463374607431768211456) ∧ Hid (mul f (prods f xs k) y = 1) ∧ Back f xs rs k) (fun i _ => (intOf i + 1).toNat)
      case atStart => exact ⟨N, [], v, Nat.le_refl _, rfl, hb, hr, hq, hv2, hmv, hBk⟩
      case round =>
        obtain ⟨k, rs, y, hk, rfl, hb, hr, hq, hy, hyk, hBk⟩ := hrel
        clear hv2 hmv
        cases k with
        | zero =>
          rw [show aheads f xs 0 ++ rs = rs from rfl] at hr
          have hW := Lib.hid hBk.whole
          replace hr := Lib.hid hr
          clear hBk hyk hA
          have i0 : ((0 : Nat) : Int) - 1 = -1 := rfl
          rw [i0]
          go_wp2
          go_ret2
          exact ⟨l, rs, rfl, hb, hl, hr.out, hW.out⟩
        | succ k =>
          have i0 : ((k + 1 : Nat) : Int) - 1 = (k : Int) := by omega
          rw [i0]
          clear i0
          have hlt : k < N := by omega
          obtain ⟨b1, o1, rfl, ha⟩ := hA.came (k := k) (by rw [hN.out]; exact hlt)
          have hxk := hxs.at_ (k := k) (by rw [hN.out]; exact hlt)
          have hlen : k < (aheads f xs (k + 1) ++ rs).length := by simp [aheads]; omega
          have hget : (aheads f xs (k + 1) ++ rs).getD k 0 = prods f xs k := by
            rw [List.getD_eq_getElem?_getD, List.getElem?_append_left (by simp [aheads]), ← List.getD_eq_getElem?_getD, aheads_at f xs (Nat.lt_succ_self k)]
          have hset := Lib.hid (back_set (f := f) (xs := xs) (rs := rs) (k := k) (z := mul f (prods f xs k) y))
          have hstp := hBk.step (by rw [hN.out]; exact hlt) hyk.out
          replace hstp := Lib.hid hstp
          have hP := prods_ok f xs k
          have hm1 := Lib.hid ((hmul.out _ _ hP.1 hP.2 hy.1 hy.2).2)
          have hm2 := Lib.hid ((hmul.out _ _ hy.1 hy.2 hxk.1 hxk.2).2)
          have hyx := mul_bound f y (xs.getD k 0)
          have c0 := fun v (hv : Below wr.heap.size wr v) => (hr.up hv).lo hlen
          have c1 := fun v (hv : Below wr.heap.size wr v) => (hr.up hv).hi hlen
          rw [hget] at c0 c1
          clear hyk hBk hget hP
          generalize hPP : prods f xs k = P at *
          replace hPP := Lib.hid hPP
          replace ha := Lib.hid ha
          replace c0 := Lib.hid c0
          replace c1 := Lib.hid c1
          replace hlen := Lib.hid hlen
          have i0 : (0 : Int) ≤ (k : Int) := by omega
          have i1 : (k : Int) < (N : Int) := by omega
          have n1 : q ≠ l := by omega
          go_wp2
          refine wp_region_flow1 10 (by kernel_rfl) (by kernel_rfl) (by kernel_rfl) ?_
          apply Exists.intro
          refine ⟨fun ι _ φ hφ => ?_, fun wt hwt => ?_⟩
          · have d0 := fun i => c0.out _ (hφ.old i)
            have d1 := fun i => c1.out _ (hφ.old i)
            obtain ⟨e0, e1⟩ := Family.two (φ := φ) hφ hq
            simp only [List.take_succ_cons, List.take_zero]
            repeat (go_big_quiet_step ((first | (go_at_call 26; exact flow_call hφ (hm1.out _)))))
            exact wpQuiet_nil rfl
          replace hb := below_next hb hb.size hwt
          replace hr := hr.up hwt
          replace hq := hq.up hwt
          clear hwt c0 c1
          simp only [List.drop_succ_cons, List.drop_zero]
          have s0 := hr.lo hlen.out
          have s1 := hr.hi hlen.out
          have f0' := hr.free (k * 2)
          have f1' := hr.free (k * 2 + 1)
          go_wp2
          clear s0 s1 f0' f1'
          refine name_wp (fun w8 => Below w.heap.size w w8 ∧ Row w8 l (aheads f xs k ++ (mul f P y :: rs)) ∧ Holds w8 q y) ⟨(hb.setCell (p := ⟨l, k * 2, none⟩) hl _).setCell (p := ⟨l, k * 2 + 1, none⟩) hl _, by rw [← hset.out]; exact hr.set hlen.out _, hq.far' n1⟩ ?_
          clear hb hr hq hlen hset
          rintro w8 ⟨hb, hr, hq⟩
          refine wp_region_flow1 7 (by kernel_rfl) (by kernel_rfl) (by kernel_rfl) ?_
          apply Exists.intro
          refine ⟨fun ι _ φ hφ => ?_, fun wt2 hwt => ?_⟩
          · have d5 := fun i => (ha.out _ (below_next hb hb.size (hφ.old i))).1
            have d6 := fun i => (ha.out _ (below_next hb hb.size (hφ.old i))).2
            obtain ⟨e0, e1⟩ := Family.two (φ := φ) hφ hq
            simp only [List.take_succ_cons, List.take_zero]
            repeat (go_big_quiet_step ((first | (go_at_call 26; exact flow_call hφ (hm2.out _)))))
            exact wpQuiet_nil rfl
          replace hb := below_next hb hb.size hwt
          replace hr := hr.up hwt
          replace hq := hq.up hwt
          clear hwt
          simp only [List.drop_succ_cons, List.drop_zero]
          obtain ⟨e0, e1, e2, e3⟩ := blk2 hq
          go_wp2
          clear e0 e1 e2 e3
          go_roundw
          case rel => exact ⟨k, mul f P y :: rs, mul f y (xs.getD k 0), by omega, by go_num, below_store2 hb hwq, hr.far (Ne.symm n1), hq.set _, by omega, by rw [hPP.out]; exact hstp.out.2, hstp.out.1⟩
          case measure => simp [intOf]
theorem prods_nought {f : Int} {xs : List Int} {i : Nat} (hz : redu f (xs.getD i 0) = 0) : ∀ {k : Nat}, i < k → k ≤ xs.length → redu f (prods f xs k) = 0
  | 0, h, _ => absurd h (Nat.not_lt_zero _)
  | k + 1, h, hk => by
    rw [prods_succ (by omega)]
    by_cases e : i = k
    · subst e; rw [mul_comm', mul_zero_of hz]; exact redu_zero f
    · rw [mul_zero_of (prods_nought hz (k := k) (by omega) (by omega))]; exact redu_zero f
theorem lst_of (rs : List Int) {N : Nat} (h : rs.length = N) : lst (fun i => rs.getD i 0) N = rs := by
  apply List.ext_getElem (by simp [lst, h])
  intro i h1 h2
  simp [lst, h2]
/-- So many powers of two numbers, of one degree. -/
def sq (u x : Int) : Nat → Int
  | 0 => 0
  | m + 1 => u * sq u x m + u * x ^ m
theorem sq_geo (u x : Int) : ∀ m, (x - u) * sq u x m = u * (x ^ m - u ^ m)
  | 0 => by simp [sq]
  | m + 1 => by
    have h := sq_geo u x m
    rw [sq, Int.pow_succ, Int.pow_succ]
    generalize sq u x m = s at *
    generalize x ^ m = a at *
    generalize u ^ m = b at *
    grind
theorem pf_same {F G : Nat → Int} (x : Int) : ∀ n, (∀ t, t < n → F t = G t) → pf x F n = pf x G n
  | 0, _ => rfl
  | n + 1, h => by rw [pf, pf, h n (by omega), pf_same x n (fun t ht => h t (by omega))]
theorem sq_pf (u x : Int) : ∀ m, sq u x m = pf x (fun q => u ^ (m - q)) m
  | 0 => rfl
  | m + 1 => by
    have e : pf x (fun q => u ^ (m + 1 - q)) m = u * pf x (fun q => u ^ (m - q)) m := by
      rw [← pf_smul]
      exact pf_same x m (fun t ht => by rw [show m + 1 - t = m - t + 1 by omega, Int.pow_succ, Int.mul_comm])
    rw [sq, pf, e, sq_pf u x m, show m + 1 - m = 1 by omega, Int.pow_succ, Int.pow_zero, Int.one_mul]
theorem turned {m u x : Int} {N : Nat} (hu : Eqm m (u ^ N) 1) : Eqm m (pf x (fun q => u ^ ((N - q) % N)) N) (sq u x N) := by
  rw [sq_pf]
  refine pf_congr Eqm.rfl' N (fun t ht => ?_)
  by_cases h : t = 0
  · subst h
    rw [Nat.sub_zero, Nat.mod_self, Int.pow_zero]
    exact hu.symm'
  · rw [Nat.mod_eq_of_lt (by omega)]
    rfl
/-- A root's share of a value. -/
def shr (W x : Int) (N i : Nat) : Int := pf x (fun q => (W ^ i) ^ ((N - q) % N)) N
theorem shr_eqm {m W x : Int} {N : Nat} (hW : Eqm m (W ^ N) 1) (i : Nat) : Eqm m ((x - W ^ i) * shr W x N i) (W ^ i * (x ^ N - 1)) := by
  have hu : Eqm m ((W ^ i) ^ N) 1 := by
    rw [← Int.pow_mul, Nat.mul_comm, Int.pow_mul]
    have := hW.pow i
    rwa [Int.one_pow] at this
  have h1 : Eqm m ((x - W ^ i) * shr W x N i) ((x - W ^ i) * sq (W ^ i) x N) := Eqm.mul rfl (turned hu)
  rw [sq_geo] at h1
  exact h1.trans' (Eqm.mul rfl (Eqm.sub rfl hu))
theorem sm_congr {m : Int} {F G : Nat → Int} : ∀ n, (∀ t, t < n → Eqm m (F t) (G t)) → Eqm m (sm F n) (sm G n)
  | 0, _ => rfl
  | n + 1, h => (sm_congr n (fun t ht => h t (by omega))).add (h n (by omega))
theorem sm_smul (c : Int) (F : Nat → Int) : ∀ n, sm (fun t => c * F t) n = c * sm F n
  | 0 => by simp [sm]
  | n + 1 => by rw [sm, sm, sm_smul c F n, Int.mul_add]
theorem swap_sums (x W : Int) (v : Nat → Int) (e : Nat → Nat) (m : Nat) : ∀ n, pf x (fun q => pf (W ^ e q) v n) m = sm (fun i => v i * pf x (fun q => (W ^ i) ^ e q) m) n
  | 0 => by rw [sm]; exact pf_zero x m
  | n + 1 => by
    rw [sm, ← swap_sums x W v e m n]
    have h : (fun q => pf (W ^ e q) v (n + 1)) = fun q => pf (W ^ e q) v n + v n * (W ^ n) ^ e q := by
      funext q
      rw [pf, ← Int.pow_mul, ← Int.pow_mul, Nat.mul_comm]
    rw [h, pf_add, pf_smul]
/-- A sum of products, as elements. -/
theorem dot_sm {f : Int} {A B : Nat → Int} (hA : ∀ t, 0 ≤ A t ∧ A t < M f) (hB : ∀ t, 0 ≤ B t ∧ B t < M f) : ∀ n, (List.zipWith (mul f) (lst A n) (lst B n)).foldl (add f) 0 = sm (fun i => A i * B i) n % M f
  | 0 => by simp [lst, sm]
  | n + 1 => by
    have h := dot_sm hA hB n
    rw [lst_succ, lst_succ, List.zipWith_append (by rw [lst_length, lst_length]), List.foldl_append, h]
    show add f (sm (fun i => A i * B i) n % M f) (mul f (A n) (B n)) = _
    refine in_eq (add_bound f _ _) (mod_in f _) ?_
    refine (add_eqm f _ _ (mod_in f _) (mul_bound f _ _)).trans' ?_
    refine ((eqm_mod _ _).add (mul_eqm f _ _ (hA n) (hB n))).trans' ?_
    exact (eqm_mod _ _).symm'
/-- The weights make the value. -/
theorem weights_value {f : Int} {W x v : Int} {N : Nat} {V Wt C Y : Nat → Int} (hV : ∀ t, 0 ≤ V t ∧ V t < M f) (hWt : ∀ t, 0 ≤ Wt t ∧ Wt t < M f) (hw : ∀ i, i < N → Eqm (M f) (Wt i) (v * shr W x N i)) (hC : ∀ q, q < N → Eqm (M f) (C q) (Y ((N - q) % N) * v)) (hY : ∀ j, j < N → Eqm (M f) (Y j) (pf (W ^ j) V N)) (hN : 1 ≤ N) :
    (List.zipWith (mul f) (lst Wt N) (lst V N)).foldl (add f) 0 = pf x C N % M f := by
  rw [dot_sm hWt hV]
  refine in_eq (mod_in f _) (mod_in f _) ((eqm_mod _ _).trans' (Eqm.trans' ?_ (eqm_mod _ _).symm'))
  have h1 : Eqm (M f) (sm (fun i => Wt i * V i) N) (sm (fun i => v * (V i * shr W x N i)) N) := sm_congr N (fun i hi' => by
    have := (hw i hi').mul (Eqm.rfl' (m := M f) (a := V i))
    have e : v * shr W x N i * V i = v * (V i * shr W x N i) := by rw [Int.mul_assoc, Int.mul_comm (shr W x N i)]
    rw [e] at this
    exact this)
  rw [sm_smul] at h1
  have h2 : Eqm (M f) (pf x C N) (pf x (fun q => v * pf (W ^ ((N - q) % N)) V N) N) := pf_congr Eqm.rfl' N (fun q hq => (hC q hq).trans' (by rw [Int.mul_comm v]; exact (hY _ (Nat.mod_lt _ (by omega))).mul rfl))
  rw [pf_smul, swap_sums x W V (fun q => (N - q) % N) N N] at h2
  exact h1.trans' h2.symm'
end Go.Proofs.YtbpedpkhhjfhjaaDoor
