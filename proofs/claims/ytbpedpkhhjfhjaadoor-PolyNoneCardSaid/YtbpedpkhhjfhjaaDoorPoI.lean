/-
  The document's own products of polynomials.
-/
import Derived.Test.YtbpedpkhhjfhjaaDoorPoG
import Derived.Deep.DeepCutAuto
import Derived.Deep.CutBlock
namespace Go.Proofs.YtbpedpkhhjfhjaaDoor
open Go.RowKit F Flow
set_option linter.unusedVariables false
set_option linter.unusedSimpArgs false
attribute [local go_sem] eql_elem

/-- A product place by place: both trimmed ahead, neither nought. -/
theorem rproduct_none (f : Int) (F G : Nat → Int) (n k : Nat) (h0 : tl F n = 0 ∨ tl G k = 0) (hF : Lim F n) (hG : Lim G k) (hn : n ≤ 2000) (hk : k ≤ 2000) (A B : Option Addr) (c d : Nat) (hc : n ≤ c) (hd : k ≤ d) (w : World) (hA : ElemsAt w A (lst F n)) (hB : ElemsAt w B (lst G k)) :
    Calls Tryd.prog 17 #[.int .i64 f, .slice A n c, .slice B k d] w (ROut (fun _ => 0) 0 w) := by
  have ha := Lib.hid (fun w h => rtrim_any F n A c hF (by omega) hc w h)
  have hb' := Lib.hid (fun w h => rtrim_any G k B d hG (by omega) hd w h)
  unfold ROut at *
  generalize tl F n = na at *
  generalize tl G k = nb at *
  go_enter Tryd.func17, Tryd.ntmps17
  go_wp2_with fail
  refine (ha.out _ hA).mono ?_
  rintro e w2 ⟨A2, c2, hc2, rfl, hb, hLa⟩
  go_wp2_with fail
  refine (hb'.out _ (hB.up hb)).mono ?_
  rintro e w3 ⟨B2, d2, hd2, rfl, hb2, hLb⟩
  replace hb := below_next hb hb.size hb2
  clear hb2 ha hb' hLa hLb
  by_cases z1 : na = 0
  · subst z1
    go_wp2
    go_ret
    exact ⟨none, 0, Nat.le_refl _, rfl, hb, fun k hk => by rw [lst_length] at hk; omega⟩
  · obtain rfl : nb = 0 := by omega
    have y1 : ((na : Int) == 0) = false := by rw [beq_eq_false_iff_ne]; omega
    go_wp2
    go_ret
    exact ⟨none, 0, Nat.le_refl _, rfl, hb, fun k hk => by rw [lst_length] at hk; omega⟩
set_option maxRecDepth 20000 in
set_option maxHeartbeats 4000000 in
theorem rproduct_some (f : Int) (F G : Nat → Int) (n k : Nat) (h1 : 1 ≤ tl F n) (h2 : 1 ≤ tl G k) (hF : ∀ t, 0 ≤ F t ∧ F t < M f) (hG : ∀ t, 0 ≤ G t ∧ G t < M f) (hn : n ≤ 2000) (hk : k ≤ 2000) (A B : Option Addr) (c d : Nat) (hc : n ≤ c) (hd : k ≤ d) (w : World) (hA : ElemsAt w A (lst F n)) (hB : ElemsAt w B (lst G k)) :
    Calls Tryd.prog 17 #[.int .i64 f, .slice A n c, .slice B k d] w (ROut (cv f F G (tl G k) (tl F n)) (tl (cv f F G (tl G k) (tl F n)) (tl F n + tl G k - 1)) w) := by
  have ha := Lib.hid (fun w h => rtrim_any F n A c (lim_f (f := f) hF) (by omega) hc w h)
  have hb' := Lib.hid (fun w h => rtrim_any G k B d (lim_f (f := f) hG) (by omega) hd w h)
  have hla := tl_le F n
  have hlb := tl_le G k
  generalize tl F n = na at *
  generalize tl G k = nb at *
  obtain ⟨N, hN⟩ : ∃ N, N = na + nb - 1 := ⟨_, rfl⟩
  have eN : (na : Int) + (nb : Int) - 1 = (N : Int) := by omega
  rw [← hN]
  have htr := Lib.hid (fun A c hc w h => rtrim_any (cv f F G nb na) N A c (lim_f (f := f) (cv_in f F G nb na)) (by omega) hc w h)
  have hmk := make_elems N (by omega)
  have hMl := M_lt f
  have hmul := Lib.hid (fun a b a0 a1 b0 b1 => mul_any f a b a0 a1 b0 b1)
  have hadd := Lib.hid (fun a b a0 a1 b0 b1 => add_any f a b a0 a1 b0 b1)
  unfold ROut at *
  generalize tl (cv f F G nb na) N = T at *
  replace hN := Lib.hid hN
  have y1 : ((na : Int) == 0) = false := by rw [beq_eq_false_iff_ne]; omega
  have y2 : ((nb : Int) == 0) = false := by rw [beq_eq_false_iff_ne]; omega
  go_enter Tryd.func17, Tryd.ntmps17
  go_wp2_with fail
  refine (ha.out _ hA).mono ?_
  rintro e w2 ⟨A2, c2, hc2, rfl, hb, hLa⟩
  go_wp2_with fail
  refine (hb'.out _ (hB.up hb)).mono ?_
  rintro e w3 ⟨B2, d2, hd2, rfl, hb2, hLb⟩
  replace hb := below_next hb hb.size hb2
  replace hLa := hLa.up hb2
  clear hb2 ha hb' hA hB
  have z0 : lst (fun _ => 0) N = lst (cv f F G nb 0) N := lst_congr (fun p _ => by unfold cv; rw [cs, Int.zero_emod])
  go_upto_region 6 with (fail)
  have hg3 := hb.size
  refine name_wp (fun w4 => Below w.heap.size w w4 ∧ Row w4 w3.heap.size (lst (cv f F G nb 0) N) ∧ ElemsAt w4 A2 (lst F na) ∧ ElemsAt w4 B2 (lst G nb)) ⟨hb.alloc hb.size _, by rw [← z0]; exact zrow w3 N, hLa.up ((Below.refl _ _).alloc (Nat.le_refl _) _), hLb.up ((Below.refl _ _).alloc (Nat.le_refl _) _)⟩ ?_
  have hA3 : Hid (∀ j, j < na → ∃ b o, A2 = some ⟨b, o, none⟩ ∧ b < w3.heap.size) := Lib.hid (fun j h => by
    obtain ⟨b, o, e, h0, _⟩ := hLa j (by rw [lst_length]; omega)
    exact ⟨b, o, e, World.block_lt_of_cell? _ _ h0⟩)
  have hB3 : Hid (∀ j, j < nb → ∃ b o, B2 = some ⟨b, o, none⟩ ∧ b < w3.heap.size) := Lib.hid (fun j h => by
    obtain ⟨b, o, e, h0, _⟩ := hLb j (by rw [lst_length]; omega)
    exact ⟨b, o, e, World.block_lt_of_cell? _ _ h0⟩)
  clear z0 hmk hb hLa hLb
  generalize w3.heap.size = g at *
  rintro w4 ⟨hb, hr, hLa, hLb⟩
  obtain ⟨bA, oA, rfl, hbA⟩ := hA3.out 0 (by omega)
  obtain ⟨bB, oB, rfl, hbB⟩ := hB3.out 0 (by omega)
  clear hA3 hB3
  go_loopw [8] (fun i wr => ∃ j : Nat, j ≤ na ∧ i = .int .i64 (j : Int) ∧ Below w.heap.size w wr ∧ Row wr g (lst (cv f F G nb j) N) ∧ ElemsAt wr (some ⟨bA, oA, none⟩) (lst F na) ∧ ElemsAt wr (some ⟨bB, oB, none⟩) (lst G nb)) (fun i _ => na - (intOf i).toNat)
  case atStart => exact ⟨0, Nat.zero_le _, rfl, hb, hr, hLa, hLb⟩
  case round =>
    clear hb hr hLa hLb
    obtain ⟨i, hi, rfl, hb, hr, hLa, hLb⟩ := hrel
    by_cases hlt : i < na
    · have i0 : (0 : Int) ≤ (i : Int) := by omega
      have i1 : (i : Int) < (na : Int) := by omega
      rw [← cvm_zero] at hr
      go_upto_region 9 with (fail)
      go_loopw [9] (fun i' wr => ∃ j : Nat, j ≤ nb ∧ i' = .int .i64 (j : Int) ∧ Below w.heap.size w wr ∧ Row wr g (lst (cvm f F G nb i j) N) ∧ ElemsAt wr (some ⟨bA, oA, none⟩) (lst F na) ∧ ElemsAt wr (some ⟨bB, oB, none⟩) (lst G nb)) (fun i' _ => nb - (intOf i').toNat)
      case atStart => exact ⟨0, Nat.zero_le _, rfl, hb, hr, hLa, hLb⟩
      case round =>
        clear hb hr hLa hLb
        obtain ⟨j, hj, rfl, hb, hr, hLa, hLb⟩ := hrel
        by_cases hlj : j < nb
        · obtain ⟨b', o', e', c0, c1⟩ := hLa i (by rw [lst_length]; omega)
          cases e'
          rw [lst_at F hlt] at c0 c1
          obtain ⟨b', o', e', c2, c3⟩ := hLb j (by rw [lst_length]; omega)
          cases e'
          rw [lst_at G hlj] at c2 c3
          have hstep := cvm_step f hF hG (nb := nb) (i := i) (j := j) hlj
          have hset : Hid ((lst (cvm f F G nb i j) N).set (i + j) (cv f F G nb (i + 1) (i + j)) = lst (cvm f F G nb i (j + 1)) N) := Lib.hid (cvm_set f F G)
          have hkN : i + j < N := by have := hN.out; omega
          have hlen : (lst (cvm f F G nb i j) N).length = N := lst_length _ _
          have hold : (lst (cvm f F G nb i j) N).getD (i + j) 0 = cvm f F G nb i j (i + j) := lst_at _ hkN
          have hc' := cvm_in f F G nb i j (i + j)
          have hxa := hF i
          have hyb := hG j
          obtain ⟨x, hx⟩ : ∃ x, x = F i := ⟨_, rfl⟩
          obtain ⟨y, hy⟩ : ∃ y, y = G j := ⟨_, rfl⟩
          rw [← hx] at hstep hxa c0 c1
          rw [← hy] at c2 c3 hstep hyb
          have hcm := hmul.out x y hxa.1 (by omega) hyb.1 (by omega)
          have hM := mul_bound f x y
          have hca := hadd.out (cvm f F G nb i j (i + j)) (mul f x y) hc'.1 (by omega) hM.1 (by omega)
          rw [hstep] at hca
          clear hM hstep hxa hyb hy hx
          generalize lst (cvm f F G nb i j) N = L at *
          generalize cvm f F G nb i j (i + j) = s at *
          generalize cv f F G nb (i + 1) (i + j) = z at *
          generalize mul f x y = m at *
          obtain ⟨K, hK⟩ : ∃ K, K = i + j := ⟨_, rfl⟩
          rw [← hK] at hset hkN hold
          have eK : (i : Int) + (j : Int) = (K : Int) := by omega
          replace hcm := Lib.hid hcm
          replace hca := Lib.hid hca
          replace hold := Lib.hid hold
          have j0 : (0 : Int) ≤ (j : Int) := by omega
          have j1 : (j : Int) < (nb : Int) := by omega
          have j2 : (K : Int) < (N : Int) := by omega
          have j3 : (0 : Int) ≤ (K : Int) := by omega
          replace hK := Lib.hid hK
          have a0 := hr.lo (k := K) (by omega)
          have a1 := hr.hi (k := K) (by omega)
          rw [hold.out] at a0 a1
          go_wp2
          refine wp_region_flow1 23 (by kernel_rfl) (by kernel_rfl) (by kernel_rfl) ?_
          apply Exists.intro
          refine ⟨fun ι _ φ hφ => ?_, fun wt hwt => ?_⟩
          · have b0 := fun i => hφ.cell a0 i
            have b1 := fun i => hφ.cell a1 i
            have b2 := fun i => hφ.cell c0 i
            have b3 := fun i => hφ.cell c1 i
            have b4 := fun i => hφ.cell c2 i
            have b5 := fun i => hφ.cell c3 i
            simp only [List.take_succ_cons, List.take_zero]
            repeat (go_big_quiet_step ((first
              | (go_at_call 15; exact flow_call hφ (hcm.out _))
              | (go_at_call 45; exact flow_call hφ (hca.out _)))))
            exact wpQuiet_nil rfl
          replace hb := below_next hb hb.size hwt
          replace hr := hr.up hwt
          replace hLa := hLa.up hwt
          replace hLb := hLb.up hwt
          clear hwt a0 a1 c0 c1 c2 c3
          simp only [List.drop_succ_cons, List.drop_zero]
          have s0 := hr.lo (k := K) (by omega)
          have s1 := hr.hi (k := K) (by omega)
          have f0 := hr.free (K * 2)
          have f1 := hr.free (K * 2 + 1)
          have hr6 := hr.set (k := K) (by omega) z
          rw [hset.out] at hr6
          go_wp2
          exact ⟨⟨j + 1, by omega, by go_num, (hb.setCell (p := ⟨g, K * 2, none⟩) hg3 _).setCell (p := ⟨g, K * 2 + 1, none⟩) hg3 _, hr6, hLa.far2 (by omega), hLb.far2 (by omega)⟩, by simp [intOf]; omega⟩
        · obtain rfl : j = nb := by omega
          rw [cvm_full] at hr
          go_wp2
          exact ⟨⟨i + 1, by omega, by go_num, hb, hr, hLa, hLb⟩, by simp [intOf]; omega⟩
    · obtain rfl : i = na := by omega
      clear hLa hLb
      go_wp2_with fail
      refine (htr.out _ _ (Nat.le_refl _) _ hr.elems).mono ?_
      rintro e w4 ⟨A4, c4, h4, rfl, hb2, hL⟩
      replace hb := below_next hb hb.size hb2
      replace hL := Lib.hid hL
      replace h4 := Lib.hid h4
      clear hb2
      go_wp2
      go_ret
      exact ⟨A4, c4, h4.out, rfl, hb, hL.out⟩
end Go.Proofs.YtbpedpkhhjfhjaaDoor
