/-
  A thing is put: its walk.
-/
import Derived.Test.YtdjgkojcckopaaaRlE
namespace Go.Proofs.Ytdjgkojcckopaaa
open Go.RowKit Flow
set_option linter.unusedVariables false
set_option linter.unusedSimpArgs false

set_option maxHeartbeats 4000000 in
theorem put0 (p : Nat) (xs : List Int) (k n s : Int) (A : Option Addr) (bs : List Int) (c : Nat) (ss : List Int) (k0 : 0 ≤ k) (hk : k % 6 = 0) (hlen : xs.length + bs.length ≤ 1073741824) (w : World) (hW : Wr w p xs)
    (hN : News w A bs.length c 1 (bs.map (Value.int .u8))) (hA : 0 < bs.length → ∀ ad, A = some ad → Safe w p ad.block) :
    Calls Try.prog 8 #[.agg (tcells k n s A bs.length c ss).toArray, .pointer (some ⟨p, 0, none⟩)] w (Put p xs bs w) := by
  go_enter Try.func8, Try.ntmps8
  go_upto_region 1 with (fail)
  refine name_wp (fun w1 => Below w.heap.size w w1 ∧ w1.heap.size = w.heap.size + 1 ∧ Boxed12 w1 w.heap.size k n s A bs.length c ss)
    ⟨(Below.refl _ _).alloc (Nat.le_refl _) _, by simp, boxed_alloc _ _ _ _ _ _ _ _ _⟩ ?_
  rintro w1 ⟨hb1, hz1, hbx⟩
  have hW1 := hW.up hb1
  have hN1 := hN.up hb1
  have hS1 := Step.of_below hW.lt hb1
  have hA1 : 0 < bs.length → ∀ ad, A = some ad → Safe w1 p ad.block := fun h0 ad ha => by
    obtain ⟨q1, q2, q3⟩ := hA h0 ad ha
    refine ⟨q1, by omega, fun v hv => ?_⟩
    have hp := hW.lt
    exact q3 v ((hb1.block p hp).symm.trans hv)
  have hsg : Safe w1 p w.heap.size := hW.safe_new hb1 (Nat.le_refl _) (by omega)
  have ek : k.tmod 6 = k % 6 := Int.tmod_eq_emod_of_nonneg k0
  obtain ⟨c0, c1, c2, c3, r4⟩ := hbx
  replace r4 := Lib.hid r4
  replace hN1 := Lib.hid hN1
  replace hA1 := Lib.hid hA1
  replace hsg := Lib.hid hsg
  clear hA hN hW
  rw [hk] at ek
  have hR := Lib.hid (raw_any p xs bs A c hlen w1 hW1 hN1.out)
  go_wp2_with fail
  refine hR.out.mono ?_
  rintro e w2 ⟨rfl, hW2, hS2⟩
  have hN2 := Lib.hid (news_step2 hN1.out hS2 hA1.out)
  have c32 := (World.cell?_of_block (w := w1) (a := ⟨w.heap.size, 3, none⟩) (hS2.keep _ hsg.out).1).trans c3
  clear hR c0 c1 c2 c3
  go_wp2
  go_ret
  exact ⟨_, _, rfl, hN2.out, hW2, hS1.trans hS2⟩
set_option maxHeartbeats 4000000 in
theorem put1 (p : Nat) (xs : List Int) (k n s : Int) (A : Option Addr) (bs : List Int) (c : Nat) (ss : List Int) (k0 : 0 ≤ k) (hk : k % 6 = 1) (hn : 0 ≤ n ∧ n < 18446744073709551616) (hlen : xs.length + 8 ≤ 1073741824) (w : World) (hW : Wr w p xs)
    (hN : News w A bs.length c 1 (bs.map (Value.int .u8))) (hA : 0 < bs.length → ∀ ad, A = some ad → Safe w p ad.block) :
    Calls Try.prog 8 #[.agg (tcells k n s A bs.length c ss).toArray, .pointer (some ⟨p, 0, none⟩)] w (Put p xs (ubytes n (tsize s)) w) := by
  have hsz := tsize_is s
  go_enter Try.func8, Try.ntmps8
  go_upto_region 1 with (fail)
  refine name_wp (fun w1 => Below w.heap.size w w1 ∧ w1.heap.size = w.heap.size + 1 ∧ Boxed12 w1 w.heap.size k n s A bs.length c ss)
    ⟨(Below.refl _ _).alloc (Nat.le_refl _) _, by simp, boxed_alloc _ _ _ _ _ _ _ _ _⟩ ?_
  rintro w1 ⟨hb1, hz1, hbx⟩
  have hW1 := hW.up hb1
  have hN1 := hN.up hb1
  have hS1 := Step.of_below hW.lt hb1
  have hA1 : 0 < bs.length → ∀ ad, A = some ad → Safe w1 p ad.block := fun h0 ad ha => by
    obtain ⟨q1, q2, q3⟩ := hA h0 ad ha
    refine ⟨q1, by omega, fun v hv => ?_⟩
    have hp := hW.lt
    exact q3 v ((hb1.block p hp).symm.trans hv)
  have hsg : Safe w1 p w.heap.size := hW.safe_new hb1 (Nat.le_refl _) (by omega)
  have ek : k.tmod 6 = k % 6 := Int.tmod_eq_emod_of_nonneg k0
  obtain ⟨c0, c1, c2, c3, r4⟩ := hbx
  replace r4 := Lib.hid r4
  replace hN1 := Lib.hid hN1
  replace hA1 := Lib.hid hA1
  replace hsg := Lib.hid hsg
  clear hA hN hW
  rw [hk] at ek
  have hU := Lib.hid (uint_gen p xs n hn s (tsize s) hsz (by have := hsz.le; omega) w1 hW1)
  go_wp2_with fail
  refine hU.out.mono ?_
  rintro e w2 ⟨rfl, hW2, hS2⟩
  have q := fun i => (World.cell?_of_block (w := w1) (a := ⟨w.heap.size, i, none⟩) (hS2.keep _ hsg.out).1)
  have c12 := (q 1).trans c1
  have c22 := (q 2).trans c2
  have hQ := Lib.hid (refUint_any n hn s (tsize s) hsz w2)
  clear hU c0 c1 c2 c3 q
  go_wp2_with fail
  refine hQ.out.mono ?_
  rintro e w3 ⟨v, rfl, hb3, hown3⟩
  obtain ⟨A3, cp3, rfl, hN3⟩ := owns_news hown3 rfl
  have hW3 := hW2.up hb3
  have hS3 := (hS1.trans hS2).trans (Step.of_below hW2.lt hb3)
  replace hN3 := Lib.hid hN3
  clear hown3 hQ
  go_wp2
  go_ret
  exact ⟨_, _, rfl, hN3.out, hW3, hS3⟩
set_option maxHeartbeats 4000000 in
theorem put2 (p : Nat) (xs : List Int) (k n s : Int) (A : Option Addr) (bs : List Int) (c : Nat) (ss : List Int) (k0 : 0 ≤ k) (hk : k % 6 = 2) (hlen : xs.length + 4 + bs.length ≤ 1073741000) (w : World) (hW : Wr w p xs)
    (hN : News w A bs.length c 1 (bs.map (Value.int .u8))) (hA : 0 < bs.length → ∀ ad, A = some ad → Safe w p ad.block) :
    Calls Try.prog 8 #[.agg (tcells k n s A bs.length c ss).toArray, .pointer (some ⟨p, 0, none⟩)] w (Put p xs (ubytes (bs.length : Int) 4 ++ bs) w) := by
  go_enter Try.func8, Try.ntmps8
  go_upto_region 1 with (fail)
  refine name_wp (fun w1 => Below w.heap.size w w1 ∧ w1.heap.size = w.heap.size + 1 ∧ Boxed12 w1 w.heap.size k n s A bs.length c ss)
    ⟨(Below.refl _ _).alloc (Nat.le_refl _) _, by simp, boxed_alloc _ _ _ _ _ _ _ _ _⟩ ?_
  rintro w1 ⟨hb1, hz1, hbx⟩
  have hW1 := hW.up hb1
  have hN1 := hN.up hb1
  have hS1 := Step.of_below hW.lt hb1
  have hA1 : 0 < bs.length → ∀ ad, A = some ad → Safe w1 p ad.block := fun h0 ad ha => by
    obtain ⟨q1, q2, q3⟩ := hA h0 ad ha
    refine ⟨q1, by omega, fun v hv => ?_⟩
    have hp := hW.lt
    exact q3 v ((hb1.block p hp).symm.trans hv)
  have hsg : Safe w1 p w.heap.size := hW.safe_new hb1 (Nat.le_refl _) (by omega)
  have ek : k.tmod 6 = k % 6 := Int.tmod_eq_emod_of_nonneg k0
  obtain ⟨c0, c1, c2, c3, r4⟩ := hbx
  replace r4 := Lib.hid r4
  replace hN1 := Lib.hid hN1
  replace hA1 := Lib.hid hA1
  replace hsg := Lib.hid hsg
  clear hA hN hW
  rw [hk] at ek
  have hU := Lib.hid (long_any2 p xs bs A c (by omega) w1 hW1 hN1.out hA1.out)
  go_wp2_with fail
  refine hU.out.mono ?_
  rintro e w2 ⟨rfl, hW2, hS2⟩
  have q := fun i => (World.cell?_of_block (w := w1) (a := ⟨w.heap.size, i, none⟩) (hS2.keep _ hsg.out).1)
  have c32 := (q 3).trans c3
  have hN2 := news_step2 hN1.out hS2 hA1.out
  have hQ := Lib.hid (refLong_any bs A c (by omega) w2 hN2)
  clear hU c0 c1 c2 c3 q
  go_wp2_with fail
  refine hQ.out.mono ?_
  rintro e w3 ⟨v, rfl, hb3, hown3⟩
  obtain ⟨L, hL⟩ : ∃ L, (ubytes (bs.length : Int) 4 ++ bs).length = L := ⟨_, rfl⟩
  rw [hL] at hown3
  obtain ⟨A3, cp3, rfl, hN3⟩ := owns_news hown3 hL
  replace hL := Lib.hid hL
  have hW3 := hW2.up hb3
  have hS3 := (hS1.trans hS2).trans (Step.of_below hW2.lt hb3)
  replace hN3 := Lib.hid hN3
  clear hown3 hQ
  go_wp2
  go_ret
  exact ⟨_, _, by rw [hL.out]; rfl, by rw [hL.out]; exact hN3.out, by rw [← List.append_assoc]; exact hW3, hS3⟩
set_option maxHeartbeats 4000000 in
theorem put4 (p : Nat) (xs : List Int) (k n s : Int) (A : Option Addr) (bs : List Int) (c : Nat) (ss : List Int) (k0 : 0 ≤ k) (hk : k % 6 = 4 ∨ k % 6 = 5) (hss : ss.length = 16) (hlen : xs.length + 16 ≤ 1073741824) (w : World) (hW : Wr w p xs)
    (hN : News w A bs.length c 1 (bs.map (Value.int .u8))) (hA : 0 < bs.length → ∀ ad, A = some ad → Safe w p ad.block) :
    Calls Try.prog 8 #[.agg (tcells k n s A bs.length c ss).toArray, .pointer (some ⟨p, 0, none⟩)] w (Put p xs ss w) := by
  rcases hk with hk | hk
  · go_enter Try.func8, Try.ntmps8
    go_upto_region 1 with (fail)
    refine name_wp (fun w1 => Below w.heap.size w w1 ∧ w1.heap.size = w.heap.size + 1 ∧ Boxed12 w1 w.heap.size k n s A bs.length c ss)
      ⟨(Below.refl _ _).alloc (Nat.le_refl _) _, by simp, boxed_alloc _ _ _ _ _ _ _ _ _⟩ ?_
    rintro w1 ⟨hb1, hz1, hbx⟩
    have hW1 := hW.up hb1
    have hN1 := hN.up hb1
    have hS1 := Step.of_below hW.lt hb1
    have hA1 : 0 < bs.length → ∀ ad, A = some ad → Safe w1 p ad.block := fun h0 ad ha => by
      obtain ⟨q1, q2, q3⟩ := hA h0 ad ha
      refine ⟨q1, by omega, fun v hv => ?_⟩
      have hp := hW.lt
      exact q3 v ((hb1.block p hp).symm.trans hv)
    have hsg : Safe w1 p w.heap.size := hW.safe_new hb1 (Nat.le_refl _) (by omega)
    have ek : k.tmod 6 = k % 6 := Int.tmod_eq_emod_of_nonneg k0
    obtain ⟨c0, c1, c2, c3, r4⟩ := hbx
    replace r4 := Lib.hid r4
    replace hN1 := Lib.hid hN1
    replace hA1 := Lib.hid hA1
    replace hsg := Lib.hid hsg
    clear hA hN hW
    rw [hk] at ek
    have hNs : News w1 (some ⟨w.heap.size, 4, none⟩) ss.length 16 1 (ss.map (Value.int .u8)) := ⟨by simp, fun e => (by cases e), fun ad ha j u hj => by cases ha; rw [Addr.add_mid]; exact r4.out j u hj⟩
    have hR := raw_any p xs ss (some ⟨w.heap.size, 4, none⟩) 16 (by omega) w1 hW1 hNs
    rw [hss] at hR
    replace hR := Lib.hid hR
    go_wp2_with fail
    refine hR.out.mono ?_
    rintro e w2 ⟨rfl, hW2, hS2⟩
    have hN2 := Lib.hid (news_step2 hNs hS2 (fun _ ad ha => by cases ha; exact hsg.out))
    clear hR c0 c1 c2 c3
    go_wp2
    go_ret
    exact ⟨some ⟨w.heap.size, 4, none⟩, 16, by rw [hss]; rfl, hN2.out, hW2, hS1.trans hS2⟩
  · go_enter Try.func8, Try.ntmps8
    go_upto_region 1 with (fail)
    refine name_wp (fun w1 => Below w.heap.size w w1 ∧ w1.heap.size = w.heap.size + 1 ∧ Boxed12 w1 w.heap.size k n s A bs.length c ss)
      ⟨(Below.refl _ _).alloc (Nat.le_refl _) _, by simp, boxed_alloc _ _ _ _ _ _ _ _ _⟩ ?_
    rintro w1 ⟨hb1, hz1, hbx⟩
    have hW1 := hW.up hb1
    have hN1 := hN.up hb1
    have hS1 := Step.of_below hW.lt hb1
    have hA1 : 0 < bs.length → ∀ ad, A = some ad → Safe w1 p ad.block := fun h0 ad ha => by
      obtain ⟨q1, q2, q3⟩ := hA h0 ad ha
      refine ⟨q1, by omega, fun v hv => ?_⟩
      have hp := hW.lt
      exact q3 v ((hb1.block p hp).symm.trans hv)
    have hsg : Safe w1 p w.heap.size := hW.safe_new hb1 (Nat.le_refl _) (by omega)
    have ek : k.tmod 6 = k % 6 := Int.tmod_eq_emod_of_nonneg k0
    obtain ⟨c0, c1, c2, c3, r4⟩ := hbx
    replace r4 := Lib.hid r4
    replace hN1 := Lib.hid hN1
    replace hA1 := Lib.hid hA1
    replace hsg := Lib.hid hsg
    clear hA hN hW
    rw [hk] at ek
    have hNs : News w1 (some ⟨w.heap.size, 4, none⟩) ss.length 16 1 (ss.map (Value.int .u8)) := ⟨by simp, fun e => (by cases e), fun ad ha j u hj => by cases ha; rw [Addr.add_mid]; exact r4.out j u hj⟩
    have hR := raw_any p xs ss (some ⟨w.heap.size, 4, none⟩) 16 (by omega) w1 hW1 hNs
    rw [hss] at hR
    replace hR := Lib.hid hR
    go_wp2_with fail
    refine hR.out.mono ?_
    rintro e w2 ⟨rfl, hW2, hS2⟩
    have hN2 := Lib.hid (news_step2 hNs hS2 (fun _ ad ha => by cases ha; exact hsg.out))
    clear hR c0 c1 c2 c3
    go_wp2
    go_ret
    exact ⟨some ⟨w.heap.size, 4, none⟩, 16, by rw [hss]; rfl, hN2.out, hW2, hS1.trans hS2⟩
end Go.Proofs.Ytdjgkojcckopaaa
