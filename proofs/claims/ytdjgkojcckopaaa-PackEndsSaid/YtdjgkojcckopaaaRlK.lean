/-
  A thing is taken: a text.
-/
import Derived.Test.YtdjgkojcckopaaaRlJ
namespace Go.Proofs.Ytdjgkojcckopaaa
open Go.RowKit Flow
set_option linter.unusedVariables false
set_option linter.unusedSimpArgs false

theorem arg_take {w : World} {A : Option Addr} {bs : List Int} (q : Nat) (h : ArgBytes w A bs) : ArgBytes w A (bs.take q) :=
  ⟨fun e => by rw [h.1 e]; simp, fun ad ha j u hj => h.2 ad ha j u (by
    rw [List.map_take] at hj
    have hj' : j < q := by
      have := (List.getElem?_eq_some_iff.1 hj).1
      simp at this
      omega
    rw [List.getElem?_take_of_lt hj'] at hj
    exact hj)⟩
set_option maxHeartbeats 4000000 in
theorem back3s (o r : Nat) (k n s : Int) (A : Option Addr) (ad : Addr) (hAA : A = some ad) (bs : List Int) (c : Nat) (ss zs : List Int) (k0 : 0 ≤ k) (hk : k % 6 = 3) (hb : ∀ y, y ∈ bs → 0 ≤ y ∧ y < 256) (hz : ∀ y, y ∈ zs → 0 ≤ y ∧ y < 256) (hcap : bs.length ≤ c) (v : Value) (hlen : (tbytes255 bs ++ zs).length ≤ 1073741824) (w : World) (h : Rd w o r v false 0)
    (hv : Lf w o v (tbytes255 bs ++ zs)) (hB : ArgBytes w A bs) (hA : 0 < bs.length → ∀ ad', A = some ad' → ad'.block ≠ o) :
    Calls Try.prog 12 #[.agg (tcells k n s A bs.length c ss).toArray, .pointer (some ⟨r, 0, none⟩)] w (Back w o r zs) := by
  replace hAA := Lib.hid hAA
  have hq : (bs.take 255).length ≤ 255 ∧ (bs.take 255).length ≤ bs.length := by simp; omega
  have hqm : min (bs.length : Int) 255 = ((bs.take 255).length : Int) := by simp; omega
  have hif : (if (255 : Int) < (bs.length : Int) then (255 : Int) else (bs.length : Int)) = ((bs.take 255).length : Int) := by
    simp only [List.length_take]
    split <;> omega
  obtain ⟨Q, hQ⟩ : ∃ Q, (bs.take 255).length = Q := ⟨_, rfl⟩
  have htb : tbytes255 bs ++ zs = (Q : Int) :: (bs.take 255 ++ zs) := by unfold tbytes255; rw [hQ]; rfl
  have hty : ∀ y, y ∈ bs.take 255 ++ zs → 0 ≤ y ∧ y < 256 := fun y h => by
    rcases List.mem_append.1 h with h | h
    · exact hb y (List.mem_of_mem_take h)
    · exact hz y h
  have e1 : (bs.take 255 ++ zs).take Q = bs.take 255 := by rw [← hQ]; simp
  have e2 : (bs.take 255 ++ zs).drop Q = zs := by rw [← hQ]; simp
  rw [htb] at hv hlen
  rw [hQ] at hq hqm hif
  obtain ⟨hq1, hq2⟩ := hq
  have j0 : (0 : Int) ≤ (Q : Int) := by omega
  have j1 : (Q : Int) ≤ (c : Int) := by omega
  have j2 : (Q : Int) ≤ 255 := by omega
  have j3 : Q ≤ c := by omega
  have hcv : ∀ (w : World), ArgBytes w A (bs.take 255) → (convert 23 9 (.slice A Q c)).run Try.prog w = .ok (.string (strOfNums (bs.take 255))) w := fun w h => by
    have := h.conv (P := Try.prog) Try.underlying23 Try.underlying5 Try.underlying9 c
    rw [hQ] at this
    exact this
  have hQl : Q ≤ (bs.take 255 ++ zs).length := by simp; omega
  have hll : (bs.take 255 ++ zs).length < 1073741824 := by simp only [List.length_cons] at hlen; omega
  replace hcv := Lib.hid hcv
  replace hqm := Lib.hid hqm
  go_enter Try.func12, Try.ntmps12
  go_upto_region 1 with (fail)
  refine name_wp (fun w1 => Below w.heap.size w w1 ∧ w1.heap.size = w.heap.size + 1 ∧ Boxed12 w1 w.heap.size k n s A bs.length c ss)
    ⟨(Below.refl _ _).alloc (Nat.le_refl _) _, by simp, boxed_alloc _ _ _ _ _ _ _ _ _⟩ ?_
  rintro w1 ⟨hb1, hz1, hbx⟩
  have hR1 := h.up hb1
  have hL1 := hv.but (But.of_below hb1)
  have hB1 := hB.up hb1
  have hol := lt_of_get h.ho
  have ek : k.tmod 6 = k % 6 := Int.tmod_eq_emod_of_nonneg k0
  clear h hv hB
  rw [hk] at ek
  have hR := rtext_ok o r v Q (bs.take 255 ++ zs) (by omega) hty hll hQl w1.drew (hR1.up (Below.refl _ _).drew) (hL1.but (But.of_below (Below.refl _ _).drew))
  rw [e1, e2] at hR
  unfold TookS at hR
  replace hR := Lib.hid hR
  clear hty hll hQl e1 e2 hlen hz hb htb hL1
  replace hAA := hAA.out
  subst hAA
  clear hQ
  generalize hSS : strOfNums (List.take 255 bs) = SS at *
  clear hSS
  have hcv1 := hcv.out w1.drew (arg_take 255 (hB1.up (Below.refl _ _).drew))
  have hB2 : ArgBytes w1.drew (some ad) bs := hB1.up (Below.refl _ _).drew
  have hbx2 : Boxed12 w1.drew w.heap.size k n s (some ad) bs.length c ss := hbx.up rfl
  obtain ⟨c0, c1, c2, c3, r4⟩ := hbx
  have hbd : Below w.heap.size w w1.drew := hb1.drew
  have hzd : w1.drew.heap.size = w.heap.size + 1 := hz1
  clear hb1 hz1
  go_upto_region 13 with (fail)
  clear c0 c1 c2 c3 r4
  obtain ⟨c0, c1, c2, c3, r4⟩ := hbx2
  have hbx2 : Boxed12 w1.drew w.heap.size k n s (some ad) bs.length c ss := ⟨c0, c1, c2, c3, r4⟩
  clear r4
  go_region_with ((go_at_call 27; refine hR.out.mono ?_; rintro e w2 ⟨v2, rfl, hb2, hR2, hL2⟩; have hcv2 := hcv.out w2 (arg_take 255 (arg_but hB2 hb2 hA)); have c32 := (hbx2.up (hb2.block w.heap.size (by omega) (by omega))).c3))
  all_goals go_wp2
  all_goals go_ret
  all_goals exact ⟨v2, rfl, but_first hbd hb2, hR2, hL2⟩
end Go.Proofs.Ytdjgkojcckopaaa
