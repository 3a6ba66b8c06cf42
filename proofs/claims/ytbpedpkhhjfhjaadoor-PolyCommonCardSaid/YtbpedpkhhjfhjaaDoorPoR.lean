/-
  Polynomials: any division.
-/
import Derived.Test.YtbpedpkhhjfhjaaDoorPoQ
namespace Go.Proofs.YtbpedpkhhjfhjaaDoor
open Go.RowKit F Flow
set_option linter.unusedVariables false
set_option linter.unusedSimpArgs false
attribute [local go_sem] eql_elem

/-- What Divide answers, where there is an answer. -/
def DvOut (f : Int) (a : Nat → Int) (na : Nat) (b : Nat → Int) (nb : Nat) (w : World) (e : Ending) (w' : World) : Prop := ∃ A1 A2 T R nT nR, e = .returned (.tuple #[.slice A1 nT nT, .slice A2 nR nR, .int .i64 0]) ∧ Below w.heap.size w w' ∧ Lies w.heap.size w' A1 T nT ∧ Lies w.heap.size w' A2 R nR ∧ DivF f a na b nb T nT R nR
set_option maxRecDepth 20000 in
set_option maxHeartbeats 4000000 in
theorem pdiv_zero {f : Int} (ft : Ft f) (F G : Nat → Int) (n k : Nat) (A B : Option Addr) (c d : Nat) (hF : Lim F n) (hG : Lim G k) (hn : n ≤ 1024) (hk : k ≤ 1024) (h0 : tl (rd f G) k = 0) (w : World) (hA : ElemsAt w A (lst F n)) (hB : ElemsAt w B (lst G k)) :
    Calls Tryd.prog 35 #[.int .u8 f, .slice A n c, .slice B k d] w fun e w' => e = .returned (.tuple #[.slice none 0 0, .slice none 0 0, .int .i64 8]) ∧ Below w.heap.size w w' := by
  have hval := Lib.hid ft.hval
  have hca := Lib.hid (fun w h => clean_any ft F n A c hF (by omega) w h)
  have hcb := Lib.hid (fun w h => clean_any ft G k B d hG (by omega) w h)
  have hla := tl_le (rd f F) n
  have hlb := tl_le (rd f G) k
  have ha := rd_in f F
  have hb0 := rd_in f G
  rw [show (fun i => redu f (F i)) = rd f F from rfl] at hca
  rw [show (fun i => redu f (G i)) = rd f G from rfl] at hcb
  unfold POut at hca hcb
  rw [h0] at hcb
  generalize tl (rd f F) n = na at *
  clear ft hF hG
  go_enter Tryd.func35, Tryd.ntmps35
  go_wp2_with fail
  refine call_then (hval.out _) ?_
  intro w1 hw1
  go_wp2_with fail
  refine (hca.out _ (hA.up hw1)).mono ?_
  rintro e w2 ⟨A2, rfl, hw2, hLa⟩
  replace hLa := hLa.low hw1.size
  replace hw1 := below_next hw1 hw1.size hw2
  clear hw2
  go_wp2_with fail
  refine (hcb.out _ (hB.up hw1)).mono ?_
  rintro e w3 ⟨B2, rfl, hw2, hLb⟩
  clear hca hcb hval hA hB
  replace hw1 := below_next hw1 hw1.size hw2
  clear hw2 hLa hLb
  go_wp2
  exact bodyPost_ret (v := .tuple #[.slice none 0 0, .slice none 0 0, .int .i64 8]) (by simp [results, Tryd.results35, go_sem]) rfl ⟨rfl, hw1⟩
set_option maxRecDepth 20000 in
set_option maxHeartbeats 4000000 in
theorem pdiv_any {f : Int} (ft : Ft f) (F G : Nat → Int) (n k : Nat) (A B : Option Addr) (c d : Nat) (hF : Lim F n) (hG : Lim G k) (hn : n ≤ 1024) (hk : k ≤ 1024) (h1 : 1 ≤ tl (rd f G) k) (w : World) (hA : ElemsAt w A (lst F n)) (hB : ElemsAt w B (lst G k)) :
    Calls Tryd.prog 35 #[.int .u8 f, .slice A n c, .slice B k d] w (DvOut f (rd f F) (tl (rd f F) n) (rd f G) (tl (rd f G) k) w) := by
  have hval := Lib.hid ft.hval
  have hca := Lib.hid (fun w h => clean_any ft F n A c hF (by omega) w h)
  have hcb := Lib.hid (fun w h => clean_any ft G k B d hG (by omega) w h)
  have hla := tl_le (rd f F) n
  have hlb := tl_le (rd f G) k
  have ha := rd_in f F
  have hb0 := rd_in f G
  rw [show (fun i => redu f (F i)) = rd f F from rfl] at hca
  rw [show (fun i => redu f (G i)) = rd f G from rfl] at hcb
  unfold POut at hca hcb
  have hne := tl_last (rd f G) k (by omega)
  generalize tl (rd f F) n = na at *
  generalize tl (rd f G) k = nb at *
  generalize rd f F = a at *
  generalize rd f G = b at *
  have hsh := Lib.hid (fun h A g gb w hA hB => divide_short ft a b na nb ha hb0 h1 hne h (by omega) A g gb w hA hB)
  have hlg := Lib.hid (fun h g gb hgg w hA hB => divide_long ft a b na nb ha hb0 h1 hne h (by omega) g gb hgg w hA hB)
  unfold DivOut at hsh hlg
  unfold DvOut
  clear hF hG ft
  have y0 : ((nb : Int) == 0) = false := by rw [beq_eq_false_iff_ne]; omega
  have y1 : ¬ ((1024 : Int) < (na : Int)) := by omega
  have y2 : ¬ ((1024 : Int) < (nb : Int)) := by omega
  replace hne := Lib.hid hne
  go_enter Tryd.func35, Tryd.ntmps35
  go_wp2_with fail
  refine call_then (hval.out _) ?_
  intro w1 hw1
  go_wp2_with fail
  refine (hca.out _ (hA.up hw1)).mono ?_
  rintro e w2 ⟨A2, rfl, hw2, hLa⟩
  replace hLa := hLa.low hw1.size
  replace hw1 := below_next hw1 hw1.size hw2
  clear hw2
  go_wp2_with fail
  refine (hcb.out _ (hB.up hw1)).mono ?_
  rintro e w3 ⟨B2, rfl, hw2, hLb⟩
  clear hca hcb hval hA hB
  rcases hLb with ⟨h, _⟩ | ⟨_, gb, hgb, rfl, hrb⟩
  · omega
  · have hsz := hw1.size
    by_cases c1 : na < nb
    · replace hLa := hLa.up hw2
      replace hw1 := below_next hw1 hw1.size hw2
      have hea := hLa.elems
      have hsh1 := Lib.hid (hsh.out c1)
      clear hLa hlg hsh hw2
      go_wp2_with fail
      refine (hsh1.out A2 w3.heap.size gb _ hea hrb).mono ?_
      rintro e w4 ⟨A3, A4, T, R, nT, nR, rfl, hbut, hL1, hL2, hD⟩
      replace hL1 := Lib.hid (hL1.low hw1.size)
      replace hL2 := Lib.hid (hL2.low hw1.size)
      have hb := hbut.below hw1 (by have := hw1.size; omega) hw1.size
      replace hD := Lib.hid hD
      clear hbut hw1 hrb hea
      go_wp2
      exact bodyPost_ret (v := .tuple #[.slice A3 nT nT, .slice A4 nR nR, .int .i64 0]) (by simp [results, Tryd.results35, go_sem]) rfl ⟨A3, A4, T, R, nT, nR, rfl, hb, hL1.out, hL2.out, hD.out⟩
    · rcases hLa with ⟨h, _⟩ | ⟨_, g, hg, rfl, hra⟩
      · omega
      · have hgg : gb ≠ g := by have := lt_of_get hra; omega
        replace hra := hra.up hw2
        replace hw1 := below_next hw1 hw1.size hw2
        have hlg1 := Lib.hid (hlg.out (by omega))
        clear hlg hsh hw2
        go_wp2_with fail
        refine (hlg1.out g gb hgg _ hra hrb).mono ?_
        rintro e w4 ⟨A3, A4, T, R, nT, nR, rfl, hbut, hL1, hL2, hD⟩
        replace hL1 := Lib.hid (hL1.low hw1.size)
        replace hL2 := Lib.hid (hL2.low hw1.size)
        have hb := hbut.below hw1 hg hw1.size
        replace hD := Lib.hid hD
        clear hbut hw1 hrb hra
        go_wp2
        exact bodyPost_ret (v := .tuple #[.slice A3 nT nT, .slice A4 nR nR, .int .i64 0]) (by simp [results, Tryd.results35, go_sem]) rfl ⟨A3, A4, T, R, nT, nR, rfl, hb, hL1.out, hL2.out, hD.out⟩
set_option maxHeartbeats 1000000 in
theorem pdiv_none (f : Int) (l m : Value) (h : NoField f) (w : World) : Calls Tryd.prog 35 #[.int .u8 f, l, m] w fun e w' => e = .returned (.tuple #[.slice none 0 0, .slice none 0 0, .int .i64 10]) ∧ Below w.heap.size w w' := by
  go_enter Tryd.func35, Tryd.ntmps35
  go_wp2_with fail
  refine call_then (fvalid_none f h _) ?_
  intro w1 hb
  go_wp2
  exact bodyPost_ret (v := .tuple #[.slice none 0 0, .slice none 0 0, .int .i64 10]) (by simp [results, Tryd.results35, go_sem]) rfl ⟨rfl, hb⟩
end Go.Proofs.YtbpedpkhhjfhjaaDoor
