/-
  A thing is taken: a text that is none.
-/
import Derived.Test.YtdjgkojcckopaaaRlJ
namespace Go.Proofs.Ytdjgkojcckopaaa
open Go.RowKit Flow
set_option linter.unusedVariables false
set_option linter.unusedSimpArgs false

set_option maxHeartbeats 4000000 in
theorem back3n (o r : Nat) (k n s : Int)  (ss zs : List Int) (k0 : 0 ≤ k) (hk : k % 6 = 3) (hz : ∀ y, y ∈ zs → 0 ≤ y ∧ y < 256) (v : Value) (hlen : ((0 : Int) :: zs).length ≤ 1073741824) (w : World) (h : Rd w o r v false 0)
    (hv : Lf w o v ((0 : Int) :: zs))  :
    Calls Try.prog 12 #[.agg (tcells k n s none 0 0 ss).toArray, .pointer (some ⟨r, 0, none⟩)] w (Back w o r zs) := by
  have e1 : zs.take 0 = [] := rfl
  have e2 : zs.drop 0 = zs := rfl
  go_enter Try.func12, Try.ntmps12
  go_upto_region 1 with (fail)
  refine name_wp (fun w1 => Below w.heap.size w w1 ∧ w1.heap.size = w.heap.size + 1 ∧ Boxed12 w1 w.heap.size k n s none 0 0 ss)
    ⟨(Below.refl _ _).alloc (Nat.le_refl _) _, by simp, boxed_alloc _ _ _ _ _ _ _ _ _⟩ ?_
  rintro w1 ⟨hb1, hz1, hbx⟩
  have hR1 := h.up hb1
  have hL1 := hv.but (But.of_below hb1)
  have hol := lt_of_get h.ho
  have ek : k.tmod 6 = k % 6 := Int.tmod_eq_emod_of_nonneg k0
  clear h hv
  rw [hk] at ek
  have hR := rtext_ok o r v 0 zs (by omega) hz (by simp only [List.length_cons] at hlen; omega) (by omega) w1.drew (hR1.up (Below.refl _ _).drew) (hL1.but (But.of_below (Below.refl _ _).drew))
  rw [e1, e2] at hR
  unfold TookS at hR
  rw [show strOfNums ([] : List Int) = ByteArray.mk #[] from rfl] at hR
  replace hR := Lib.hid hR
  clear e1 e2 hlen hz hL1
  have hcv1 : ∀ w : World, (convert 23 9 (.slice none 0 0)).run Try.prog w = .ok (.string (ByteArray.mk #[])) w := fun w => (show ArgBytes w none [] from ⟨fun _ => rfl, fun ad ha => by cases ha⟩).conv (P := Try.prog) Try.underlying23 Try.underlying5 Try.underlying9 0
  have hbx2 : Boxed12 w1.drew w.heap.size k n s none 0 0 ss := hbx.up rfl
  obtain ⟨c0, c1, c2, c3, r4⟩ := hbx
  have hbd : Below w.heap.size w w1.drew := hb1.drew
  have hzd : w1.drew.heap.size = w.heap.size + 1 := hz1
  clear hb1 hz1
  go_upto_region 13 with (fail)
  clear c0 c1 c2 c3 r4
  obtain ⟨c0, c1, c2, c3, r4⟩ := hbx2
  have hbx2 : Boxed12 w1.drew w.heap.size k n s none 0 0 ss := ⟨c0, c1, c2, c3, r4⟩
  clear r4
  go_region_with ((go_at_call 27; refine hR.out.mono ?_; rintro e w2 ⟨v2, rfl, hb2, hR2, hL2⟩; have c32 := (hbx2.up (hb2.block w.heap.size (by omega) (by omega))).c3))
  all_goals go_wp2
  all_goals go_ret
  all_goals exact ⟨v2, rfl, but_first hbd hb2, hR2, hL2⟩
end Go.Proofs.Ytdjgkojcckopaaa
