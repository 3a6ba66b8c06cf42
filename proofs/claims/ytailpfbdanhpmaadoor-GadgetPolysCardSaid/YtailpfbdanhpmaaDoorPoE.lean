/-
  Polynomials: any product.
-/
import Derived.Test.YtailpfbdanhpmaaDoorPoD
namespace Go.Proofs.YtailpfbdanhpmaaDoor
open Go.RowKit F Flow
set_option linter.unusedVariables false
set_option linter.unusedSimpArgs false
attribute [local go_sem] eql_elem

/-- A polynomial's elements, as they are in the field. -/
def rd (f : Int) (F : Nat → Int) (i : Nat) : Int := redu f (F i)
theorem rd_in (f : Int) (F : Nat → Int) (t : Nat) : 0 ≤ rd f F t ∧ rd f F t < M f := ⟨redu_nonneg _ _, redu_lt _ _⟩
/-- What Mul answers. -/
def MulOut (f : Int) (a b : Nat → Int) (na nb : Nat) (w : World) (e : Ending) (w' : World) : Prop :=
  (na = 0 ∨ nb = 0) ∧ MOut (fun _ => 0) 0 w e w' ∨ (0 < na ∧ 0 < nb ∧ 1024 < na + nb - 1) ∧ e = .returned (.tuple #[.slice none 0 0, .int .i64 5]) ∧ Below w.heap.size w w' ∨ (0 < na ∧ 0 < nb ∧ na + nb - 1 ≤ 1024) ∧ MOut (cv f a b nb na) (tl (cv f a b nb na) (na + nb - 1)) w e w'
set_option maxRecDepth 20000 in
set_option maxHeartbeats 4000000 in
theorem pmul_any {f : Int} (ft : Ft f) (hR : ∀ m, m ≤ 10 → RootOf f m (rt f m)) (F G : Nat → Int) (n k : Nat) (A B : Option Addr) (c d : Nat) (hF : Lim F n) (hG : Lim G k) (hn : n ≤ 4096) (hk : k ≤ 4096) (w : World) (hT : Tabs w) (hA : ElemsAt w A (lst F n)) (hB : ElemsAt w B (lst G k)) :
    Calls Tryd.prog 25 #[.int .u8 f, .slice A n c, .slice B k d] w (MulOut f (rd f F) (rd f G) (tl (rd f F) n) (tl (rd f G) k) w) := by
  have hval := Lib.hid ft.hval
  have hca := Lib.hid (fun w h => clean_any ft F n A c hF hn w h)
  have hcb := Lib.hid (fun w h => clean_any ft G k B d hG hk w h)
  have hla := tl_le (rd f F) n
  have hlb := tl_le (rd f G) k
  have ha := rd_in f F
  have hb0 := rd_in f G
  rw [show (fun i => redu f (F i)) = rd f F from rfl] at hca
  rw [show (fun i => redu f (G i)) = rd f G from rfl] at hcb
  unfold POut at hca hcb
  generalize tl (rd f F) n = na at *
  generalize tl (rd f G) k = nb at *
  generalize rd f F = a at *
  generalize rd f G = b at *
  clear hF hG
  by_cases z1 : na = 0
  · subst z1
    unfold MulOut MOut
    go_enter Tryd.func25, Tryd.ntmps25
    go_wp2_with fail
    refine call_then (hval.out _) ?_
    intro w1 hb
    go_wp2_with fail
    refine (hca.out _ (hA.up hb)).mono ?_
    rintro e w2 ⟨A2, rfl, hb2, hLa⟩
    replace hLa := hLa.low hb.size
    replace hb := below_next hb hb.size hb2
    clear hb2
    go_wp2_with fail
    refine (hcb.out _ (hB.up hb)).mono ?_
    rintro e w3 ⟨B2, rfl, hb2, hLb⟩
    replace hLa := hLa.up hb2
    replace hLb := hLb.low hb.size
    replace hb := below_next hb hb.size hb2
    clear hb2 hca hcb hval hA hB
    go_wp2
    go_ret2
    exact .inl ⟨by simp, none, rfl, hb, .inl ⟨rfl, rfl⟩⟩
  · by_cases z2 : nb = 0
    · subst z2
      unfold MulOut MOut
      have y1 : ((na : Int) == 0) = false := by rw [beq_eq_false_iff_ne]; omega
      go_enter Tryd.func25, Tryd.ntmps25
      go_wp2_with fail
      refine call_then (hval.out _) ?_
      intro w1 hb
      go_wp2_with fail
      refine (hca.out _ (hA.up hb)).mono ?_
      rintro e w2 ⟨A2, rfl, hb2, hLa⟩
      replace hLa := hLa.low hb.size
      replace hb := below_next hb hb.size hb2
      clear hb2
      go_wp2_with fail
      refine (hcb.out _ (hB.up hb)).mono ?_
      rintro e w3 ⟨B2, rfl, hb2, hLb⟩
      replace hLa := hLa.up hb2
      replace hLb := hLb.low hb.size
      replace hb := below_next hb hb.size hb2
      clear hb2 hca hcb hval hA hB
      go_wp2
      go_ret2
      exact .inl ⟨by simp, none, rfl, hb, .inl ⟨rfl, rfl⟩⟩
    · have y1 : ((na : Int) == 0) = false := by rw [beq_eq_false_iff_ne]; omega
      have y2 : ((nb : Int) == 0) = false := by rw [beq_eq_false_iff_ne]; omega
      obtain ⟨N, hN⟩ : ∃ N, N = na + nb - 1 := ⟨_, rfl⟩
      have eN : (na : Int) + (nb : Int) - 1 = (N : Int) := by omega
      by_cases hbig : 1024 < N
      · have y3 : (1024 : Int) < (N : Int) := by omega
        unfold MulOut MOut
        rw [← hN]
        go_enter Tryd.func25, Tryd.ntmps25
        go_wp2_with fail
        refine call_then (hval.out _) ?_
        intro w1 hb
        go_wp2_with fail
        refine (hca.out _ (hA.up hb)).mono ?_
        rintro e w2 ⟨A2, rfl, hb2, hLa⟩
        replace hLa := hLa.low hb.size
        replace hb := below_next hb hb.size hb2
        clear hb2
        go_wp2_with fail
        refine (hcb.out _ (hB.up hb)).mono ?_
        rintro e w3 ⟨B2, rfl, hb2, hLb⟩
        replace hLa := hLa.up hb2
        replace hLb := hLb.low hb.size
        replace hb := below_next hb hb.size hb2
        clear hb2 hca hcb hval hA hB
        go_wp2
        go_ret2
        exact .inr (.inl ⟨⟨by omega, by omega, hbig⟩, rfl, hb⟩)
      · have y3 : ¬ ((1024 : Int) < (N : Int)) := by omega
        have y4 : (N : Int) ≤ 1024 := by omega
        by_cases hsm : na < 16 ∨ nb < 16
        · have hmin : min (na : Int) (nb : Int) < 16 := by omega
          obtain ⟨K, hK⟩ : ∃ K : Int, K = min (na : Int) (nb : Int) := ⟨_, rfl⟩
          rw [← hK] at hmin
          have hK2 : min (na : Int) (nb : Int) = K := hK.symm
          have hp := Lib.hid (fun A B c d w hA hB => places_any ft a b na nb ha hb0 (by omega) (by omega) (by omega) A B c d w hA hB)
          unfold POut at hp
          unfold MulOut MOut
          rw [← hN] at hp ⊢
          generalize tl (cv f a b nb na) N = T at *
          clear hK hsm
          go_enter Tryd.func25, Tryd.ntmps25
          go_wp2_with fail
          refine call_then (hval.out _) ?_
          intro w1 hb
          go_wp2_with fail
          refine (hca.out _ (hA.up hb)).mono ?_
          rintro e w2 ⟨A2, rfl, hb2, hLa⟩
          replace hLa := hLa.low hb.size
          replace hb := below_next hb hb.size hb2
          clear hb2
          go_wp2_with fail
          refine (hcb.out _ (hB.up hb)).mono ?_
          rintro e w3 ⟨B2, rfl, hb2, hLb⟩
          replace hLa := hLa.up hb2
          replace hLb := hLb.low hb.size
          replace hb := below_next hb hb.size hb2
          clear hb2 hca hcb hval hA hB
          go_wp2_with fail
          refine (hp.out _ _ _ _ _ hLa.elems hLb.elems).mono ?_
          rintro e w4 ⟨A4, rfl, hb2, hL⟩
          have hL2 := Lib.hid (hL.low hb.size)
          replace hb := below_next hb hb.size hb2
          clear hL hb2 hLa hLb
          go_wp2
          go_ret2
          exact .inr (.inr ⟨⟨by omega, by omega, by omega⟩, A4, rfl, hb, hL2.out⟩)
        · have hmin : ¬ (min (na : Int) (nb : Int) < 16) := by omega
          obtain ⟨K, hK⟩ : ∃ K : Int, K = min (na : Int) (nb : Int) := ⟨_, rfl⟩
          rw [← hK] at hmin
          have hK2 : min (na : Int) (nb : Int) = K := hK.symm
          have hnx := Lib.hid (nnext_any (N : Int))
          unfold NxOut at hnx
          have hbv := Lib.hid (fun m (hm : m ≤ 10) X hX (hNX : N ≤ X) A B c d w hT hA hB => byvalues_any ft m hm (hR m hm) X hX a b na nb ha hb0 (by omega) (by omega) (by omega) A B c d w hT hA hB)
          unfold MOut at hbv
          unfold MulOut MOut
          rw [← hN] at hbv ⊢
          generalize tl (cv f a b nb na) N = T at *
          clear hK hsm
          replace hN := Lib.hid hN
          go_enter Tryd.func25, Tryd.ntmps25
          go_wp2_with fail
          refine call_then (hval.out _) ?_
          intro w1 hb
          go_wp2_with fail
          refine (hca.out _ (hA.up hb)).mono ?_
          rintro e w2 ⟨A2, rfl, hb2, hLa⟩
          replace hLa := hLa.low hb.size
          replace hb := below_next hb hb.size hb2
          clear hb2
          go_wp2_with fail
          refine (hcb.out _ (hB.up hb)).mono ?_
          rintro e w3 ⟨B2, rfl, hb2, hLb⟩
          replace hLa := hLa.up hb2
          replace hLb := hLb.low hb.size
          replace hb := below_next hb hb.size hb2
          clear hb2 hca hcb hval hA hB
          go_wp2_with fail
          refine (hnx.out _).mono ?_
          rintro e w4 ⟨m, X, hX, hnx2, rfl, hb2⟩
          have hNX : N ≤ X := by
            rcases hnx2.2.2 with h | h
            · rw [← hX] at h; omega
            · rw [hX, h]; show N ≤ 1024; omega
          have hm10 := hnx2.1
          replace hb := below_next hb hb.size hb2
          replace hLa := hLa.up hb2
          replace hLb := hLb.up hb2
          clear hb2 hnx hnx2
          have hbv2 := Lib.hid (fun A B c d w hT hA hB => hbv.out m hm10 X hX hNX A B c d w hT hA hB)
          clear hX hbv
          go_wp2_with fail
          refine (hbv2.out _ _ _ _ _ (hT.up hb) hLa.elems hLb.elems).mono ?_
          rintro e w5 ⟨A4, rfl, hb2, hL⟩
          have hL2 := Lib.hid (hL.low hb.size)
          replace hb := below_next hb hb.size hb2
          clear hL hb2 hLa hLb
          go_wp2
          go_ret2
          exact .inr (.inr ⟨⟨by omega, by omega, by omega⟩, A4, rfl, hb, hL2.out⟩)
end Go.Proofs.YtailpfbdanhpmaaDoor
