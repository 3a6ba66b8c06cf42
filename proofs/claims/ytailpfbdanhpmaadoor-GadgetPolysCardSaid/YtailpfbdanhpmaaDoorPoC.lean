/-
  Polynomials: a product, place by place.
-/
import Derived.Test.YtailpfbdanhpmaaDoorPoB
namespace Go.Proofs.YtailpfbdanhpmaaDoor
open Go.RowKit F Flow
set_option linter.unusedVariables false
set_option linter.unusedSimpArgs false
attribute [local go_sem] eql_elem

/-- A product's coefficients, as elements. -/
def cv (f : Int) (a b : Nat → Int) (nb i k : Nat) : Int := cs a b nb i k % M f
theorem cv_in (f : Int) (a b : Nat → Int) (nb i k : Nat) : 0 ≤ cv f a b nb i k ∧ cv f a b nb i k < M f := mod_in f _
/-- So many of a row done. -/
def cvm (f : Int) (a b : Nat → Int) (nb i j k : Nat) : Int := if i ≤ k ∧ k < i + j then cv f a b nb (i + 1) k else cv f a b nb i k
theorem cvm_zero (f : Int) (a b : Nat → Int) (nb i : Nat) : cvm f a b nb i 0 = cv f a b nb i := by
  funext k
  unfold cvm
  rw [if_neg (by omega)]
theorem cvm_full (f : Int) (a b : Nat → Int) (nb i : Nat) : cvm f a b nb i nb = cv f a b nb (i + 1) := by
  funext k
  unfold cvm
  split
  · rfl
  · rename_i h
    unfold cv
    rw [cs, if_neg h, Int.add_zero]
theorem cvm_step (f : Int) {a b : Nat → Int} (ha : ∀ t, 0 ≤ a t ∧ a t < M f) (hb : ∀ t, 0 ≤ b t ∧ b t < M f) {nb i j : Nat} (hj : j < nb) :
    add f (cvm f a b nb i j (i + j)) (mul f (a i) (b j)) = cv f a b nb (i + 1) (i + j) := by
  refine in_eq (add_bound f _ _) (cv_in _ _ _ _ _ _) ?_
  have e : cvm f a b nb i j (i + j) = cv f a b nb i (i + j) := by unfold cvm; rw [if_neg (by omega)]
  rw [e]
  refine (add_eqm f _ _ (cv_in _ _ _ _ _ _) (mul_bound f _ _)).trans' ?_
  unfold cv
  refine Eqm.trans' ?_ (eqm_mod _ _).symm'
  rw [cs, if_pos (by omega), show i + j - i = j by omega]
  exact (eqm_mod _ _).add (mul_eqm f _ _ (ha i) (hb j))
theorem cvm_set (f : Int) (a b : Nat → Int) {nb i j N : Nat} : (lst (cvm f a b nb i j) N).set (i + j) (cv f a b nb (i + 1) (i + j)) = lst (cvm f a b nb i (j + 1)) N := by
  rw [lst_set]
  refine lst_congr (fun p _ => ?_)
  unfold cvm
  by_cases e : p = i + j
  · subst e; rw [if_pos rfl, if_pos (by omega)]
  · rw [if_neg e]
    by_cases h : i ≤ p ∧ p < i + j
    · rw [if_pos h, if_pos (show i ≤ p ∧ p < i + (j + 1) by omega)]
    · rw [if_neg h, if_neg (show ¬ (i ≤ p ∧ p < i + (j + 1)) by omega)]
theorem cvm_in (f : Int) (a b : Nat → Int) (nb i j k : Nat) : 0 ≤ cvm f a b nb i j k ∧ cvm f a b nb i j k < M f := by
  unfold cvm
  split
  · exact cv_in _ _ _ _ _ _
  · exact cv_in _ _ _ _ _ _
set_option maxRecDepth 20000 in
set_option maxHeartbeats 4000000 in
theorem places_any {f : Int} (ft : Ft f) (a b : Nat → Int) (na nb : Nat) (ha : ∀ t, 0 ≤ a t ∧ a t < M f) (hbb : ∀ t, 0 ≤ b t ∧ b t < M f) (h1 : 1 ≤ na) (h2 : 1 ≤ nb) (hn : na + nb ≤ 2048) (A B : Option Addr) (c d : Nat) (w : World) (hA : ElemsAt w A (lst a na)) (hB : ElemsAt w B (lst b nb)) :
    Calls Tryd.prog 36 #[.int .u8 f, .slice A na c, .slice B nb d] w (POut (cv f a b nb na) (tl (cv f a b nb na) (na + nb - 1)) w) := by
  obtain ⟨N, hN⟩ : ∃ N, N = na + nb - 1 := ⟨_, rfl⟩
  have eN : (na : Int) + (nb : Int) - 1 = (N : Int) := by omega
  rw [← hN]
  have htr := Lib.hid (fun A w h => trim_any (cv f a b nb na) N A N (lim_f (f := f) (cv_in f a b nb na)) (by omega) w h)
  have hmk := make_elems N (by omega)
  have hMl := M_lt f
  have hmul := Lib.hid ft.hmul
  have hadd := Lib.hid ft.hadd
  unfold POut at *
  generalize tl (cv f a b nb na) N = T at *
  replace hN := Lib.hid hN
  clear ft
  go_enter Tryd.func36, Tryd.ntmps36
  go_wp2
  have z0 : lst (fun _ => 0) N = lst (cv f a b nb 0) N := lst_congr (fun p _ => by unfold cv; rw [cs, Int.zero_emod])
  refine name_wp (fun w2 => Below w.heap.size w w2 ∧ Row w2 w.heap.size (lst (cv f a b nb 0) N)) ⟨(Below.refl _ _).alloc (Nat.le_refl _) _, by rw [← z0]; exact zrow w N⟩ ?_
  clear z0 hmk
  rintro w2 ⟨hb, hr⟩
  go_loopw [21] (fun i wr => ∃ j : Nat, j ≤ na ∧ i = .int .i64 (j : Int) ∧ Below w.heap.size w wr ∧ Row wr w.heap.size (lst (cv f a b nb j) N)) (fun i _ => na - (intOf i).toNat)
  case atStart => exact ⟨0, Nat.zero_le _, rfl, hb, hr⟩
  case round =>
    clear hb hr
    obtain ⟨i, hi, rfl, hb, hr⟩ := hrel
    by_cases hlt : i < na
    · obtain ⟨bA, oA, eA, c0, c1⟩ := (hA.up hb) i (by rw [lst_length]; omega)
      rw [lst_at a hlt] at c0 c1
      subst eA
      have i0 : (0 : Int) ≤ (i : Int) := by omega
      have i1 : (i : Int) < (na : Int) := by omega
      obtain ⟨x, hx⟩ : ∃ x, x = a i := ⟨_, rfl⟩
      rw [← hx] at c0 c1
      replace hx := Lib.hid hx
      rw [← cvm_zero] at hr
      go_wp2
      have hp9 : w.heap.size < wr.heap.size := lt_of_get hr
      refine name_wp (fun w4 => Below w.heap.size w w4 ∧ Row w4 w.heap.size (lst (cvm f a b nb i 0) N) ∧ Holds w4 wr.heap.size x) ⟨hb.alloc hb.size _, hr.alloc _, alloc_at rfl⟩ ?_
      clear hb hr c0 c1
      generalize wr.heap.size = p9 at *
      rintro w4 ⟨hb, hr, kx⟩
      go_loopw [28] (fun i' wr => ∃ j : Nat, j ≤ nb ∧ i' = .int .i64 (j : Int) ∧ Below w.heap.size w wr ∧ Row wr w.heap.size (lst (cvm f a b nb i j) N) ∧ Holds wr p9 x) (fun i' _ => nb - (intOf i').toNat)
      case atStart => exact ⟨0, Nat.zero_le _, rfl, hb, hr, kx⟩
      case round =>
        clear hb hr kx
        obtain ⟨j, hj, rfl, hb, hr, kx⟩ := hrel
        by_cases hlj : j < nb
        · obtain ⟨bB, oB, eB, c0, c1⟩ := (hB.up hb) j (by rw [lst_length]; omega)
          rw [lst_at b hlj] at c0 c1
          subst eB
          have hstep := cvm_step f ha hbb (nb := nb) (i := i) (j := j) hlj
          have hset : Hid ((lst (cvm f a b nb i j) N).set (i + j) (cv f a b nb (i + 1) (i + j)) = lst (cvm f a b nb i (j + 1)) N) := Lib.hid (cvm_set f a b)
          have hkN : i + j < N := by have := hN.out; omega
          have hlen : (lst (cvm f a b nb i j) N).length = N := lst_length _ _
          have hold : (lst (cvm f a b nb i j) N).getD (i + j) 0 = cvm f a b nb i j (i + j) := lst_at _ hkN
          have hc := cvm_in f a b nb i j (i + j)
          have hxa := ha i
          have hyb := hbb j
          rw [← hx.out] at hstep hxa
          obtain ⟨y, hy⟩ : ∃ y, y = b j := ⟨_, rfl⟩
          rw [← hy] at c0 c1 hstep hyb
          obtain ⟨hM, hcm⟩ := hmul.out x y hxa.1 (by omega) hyb.1 (by omega)
          obtain ⟨hA2, hca⟩ := hadd.out (cvm f a b nb i j (i + j)) (mul f x y) hc.1 (by omega) hM.1 hM.2
          rw [hstep] at hca
          clear hA2 hM hstep hxa hyb hy
          generalize lst (cvm f a b nb i j) N = L at *
          generalize cvm f a b nb i j (i + j) = s at *
          generalize cv f a b nb (i + 1) (i + j) = z at *
          generalize mul f x y = m at *
          obtain ⟨K, hK⟩ : ∃ K, K = i + j := ⟨_, rfl⟩
          rw [← hK] at hset hkN hold
          have eK : (i : Int) + (j : Int) = (K : Int) := by omega
          replace hcm := Lib.hid hcm
          replace hca := Lib.hid hca
          replace hold := Lib.hid hold
          have j0 : (0 : Int) ≤ (j : Int) := by omega
          have j1 : (j : Int) < (nb : Int) := by omega
          have j2 : (K : Int) < (N : Int) := by omega
          have j3 : (0 : Int) ≤ (K : Int) := by omega
          replace hK := Lib.hid hK
          go_wp2
          have hp11 : w.heap.size ≤ wr.heap.size := hb.size
          refine name_wp (fun w5 => Below w.heap.size w w5 ∧ Row w5 w.heap.size L ∧ Holds w5 p9 x ∧ Holds w5 wr.heap.size y) ⟨hb.alloc hb.size _, hr.alloc _, kx.alloc _, alloc_at rfl⟩ ?_
          clear hb hr kx c0 c1
          generalize wr.heap.size = p11 at *
          rintro w5 ⟨hb, hr, kx, ky⟩
          have a0 := hr.lo (k := K) (by omega)
          have a1 := hr.hi (k := K) (by omega)
          rw [hold.out] at a0 a1
          refine wp_region_flow1 17 (by kernel_rfl) (by kernel_rfl) (by kernel_rfl) ?_
          apply Exists.intro
          refine ⟨fun ι _ φ hφ => ?_, fun wt hwt => ?_⟩
          · have b0 := fun i => hφ.cell a0 i
            have b1 := fun i => hφ.cell a1 i
            obtain ⟨d0, d1⟩ := hφ.two kx
            obtain ⟨d2, d3⟩ := hφ.two ky
            simp only [List.take_succ_cons, List.take_zero]
            repeat (go_big_quiet_step ((first
              | (go_at_call 30; exact flow_call hφ (hcm.out _))
              | (go_at_call 29; exact flow_call hφ (hca.out _)))))
            exact wpQuiet_nil rfl
          replace hb := below_next hb hb.size hwt
          replace kx := kx.up hwt
          replace hr := hr.up hwt
          clear hwt a0 a1 ky
          simp only [List.drop_succ_cons, List.drop_zero]
          have s0 := hr.lo (k := K) (by omega)
          have s1 := hr.hi (k := K) (by omega)
          have f0 := hr.free (K * 2)
          have f1 := hr.free (K * 2 + 1)
          have hr6 := hr.set (k := K) (by omega) z
          rw [hset.out] at hr6
          go_wp2
          exact ⟨⟨j + 1, by omega, by go_num, (hb.setCell (p := ⟨w.heap.size, K * 2, none⟩) (Nat.le_refl _) _).setCell (p := ⟨w.heap.size, K * 2 + 1, none⟩) (Nat.le_refl _) _, hr6, kx.far' (by omega)⟩, by simp [intOf]; omega⟩
        · obtain rfl : j = nb := by omega
          rw [cvm_full] at hr
          go_wp2
          exact ⟨⟨i + 1, by omega, by go_num, hb, hr⟩, by simp [intOf]; omega⟩
    · obtain rfl : i = na := by omega
      clear hA hB
      go_wp2_with fail
      refine (htr.out _ _ hr.elems).mono ?_
      rintro e w4 ⟨A4, rfl, hb2, hL⟩
      have hL2 := Lib.hid (hL.low hb.size)
      replace hb := below_next hb hb.size hb2
      clear hL hb2
      go_wp2
      go_ret
      exact ⟨A4, rfl, hb, hL2.out⟩
end Go.Proofs.YtailpfbdanhpmaaDoor
