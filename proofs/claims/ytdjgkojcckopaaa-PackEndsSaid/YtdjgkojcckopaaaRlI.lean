/-
  A thing is taken: bytes.
-/
import Derived.Test.YtdjgkojcckopaaaRlH
namespace Go.Proofs.Ytdjgkojcckopaaa
open Go.RowKit Flow
set_option linter.unusedVariables false
set_option linter.unusedSimpArgs false

set_option maxHeartbeats 4000000 in
theorem back0 (o r : Nat) (k n s : Int) (A : Option Addr) (bs : List Int) (c : Nat) (ss zs : List Int) (k0 : 0 ≤ k) (hk : k % 6 = 0) (v : Value) (hlen : (bs ++ zs).length ≤ 1073741824) (w : World) (h : Rd w o r v false 0) (hv : Lf w o v (bs ++ zs))
    (hB : ArgBytes w A bs) (hA : 0 < bs.length → ∀ ad, A = some ad → ad.block ≠ o) :
    Calls Try.prog 12 #[.agg (tcells k n s A bs.length c ss).toArray, .pointer (some ⟨r, 0, none⟩)] w (Back w o r zs) := by
  have hcv := Lib.hid (fun (w : World) (h : ArgBytes w A bs) => h.conv (P := Try.prog) Try.underlying23 Try.underlying5 Try.underlying9 c)
  have e1 : (bs ++ zs).take bs.length = bs := by simp
  have e2 : (bs ++ zs).drop bs.length = zs := by simp
  go_enter Try.func12, Try.ntmps12
  go_upto_region 1 with (fail)
  refine name_wp (fun w1 => Below w.heap.size w w1 ∧ w1.heap.size = w.heap.size + 1 ∧ Boxed12 w1 w.heap.size k n s A bs.length c ss)
    ⟨(Below.refl _ _).alloc (Nat.le_refl _) _, by simp, boxed_alloc _ _ _ _ _ _ _ _ _⟩ ?_
  rintro w1 ⟨hb1, hz1, hbx⟩
  have hR1 := h.up hb1
  have hL1 := hv.but (But.of_below hb1)
  have hB1 := hB.up hb1
  have hol := lt_of_get h.ho
  have ek : k.tmod 6 = k % 6 := Int.tmod_eq_emod_of_nonneg k0
  clear h hv hB
  rw [hk] at ek
  have hR := rraw_ok o r v (bs ++ zs) bs.length (by simp) hlen w1.drew (hR1.up (Below.refl _ _).drew) (hL1.but (But.of_below (Below.refl _ _).drew))
  rw [e1, e2] at hR
  replace hR := Lib.hid hR
  have hcv1 := hcv.out w1.drew (hB1.up (Below.refl _ _).drew)
  have hB2 : ArgBytes w1.drew A bs := hB1.up (Below.refl _ _).drew
  have hbx2 : Boxed12 w1.drew w.heap.size k n s A bs.length c ss := hbx.up rfl
  obtain ⟨c0, c1, c2, c3, r4⟩ := hbx
  have hbd : Below w.heap.size w w1.drew := hb1.drew
  have hzd : w1.drew.heap.size = w.heap.size + 1 := hz1
  have hsz : ∀ xs : List Int, strOfNums xs = strOfNums xs := fun _ => rfl
  clear e1 e2 hb1 hz1
  go_upto_region 3 with (fail)
  clear c0 c1 c2 c3 r4
  obtain ⟨c0, c1, c2, c3, r4⟩ := hbx2
  have hbx2 : Boxed12 w1.drew w.heap.size k n s A bs.length c ss := ⟨c0, c1, c2, c3, r4⟩
  clear r4
  generalize hSS : strOfNums bs = SS at *
  go_region_with ((go_at_call 16; refine hR.out.mono ?_; rintro e w2 ⟨v1, v2, rfl, hb2, hR2, hL2, hF2⟩; have hcv2 := hcv.out w2 (arg_but hB2 hb2 hA); have c32 := (hbx2.up (hb2.block w.heap.size (by omega) (by omega))).c3; have hcv3 := Tx.conv (P := Try.prog) hF2.tx (src := 23) (e := 5) (dst := 9) Try.underlying23 Try.underlying5 Try.underlying9; rw [hSS] at hcv3))
  all_goals go_wp2
  all_goals go_ret
  all_goals exact ⟨v2, rfl, but_first hbd hb2, hR2, hL2⟩
set_option maxHeartbeats 4000000 in
theorem back2 (o r : Nat) (k n s : Int) (A : Option Addr) (bs : List Int) (c : Nat) (ss zs : List Int) (k0 : 0 ≤ k) (hk : k % 6 = 2) (hb : ∀ y, y ∈ bs → 0 ≤ y ∧ y < 256) (hz : ∀ y, y ∈ zs → 0 ≤ y ∧ y < 256) (v : Value) (hlen : (ubytes (bs.length : Int) 4 ++ (bs ++ zs)).length ≤ 1073741824) (w : World) (h : Rd w o r v false 0)
    (hv : Lf w o v (ubytes (bs.length : Int) 4 ++ (bs ++ zs)))
    (hB : ArgBytes w A bs) (hA : 0 < bs.length → ∀ ad, A = some ad → ad.block ≠ o) :
    Calls Try.prog 12 #[.agg (tcells k n s A bs.length c ss).toArray, .pointer (some ⟨r, 0, none⟩)] w (Back w o r zs) := by
  have hcv := Lib.hid (fun (w : World) (h : ArgBytes w A bs) => h.conv (P := Try.prog) Try.underlying23 Try.underlying5 Try.underlying9 c)
  have hu4 := ubytes_len (bs.length : Int) 4
  have hll : bs.length ≤ 1073741824 := by simp at hlen; omega
  have e3 : (ubytes (bs.length : Int) 4 ++ (bs ++ zs)).take 4 = ubytes (bs.length : Int) 4 := by rw [List.take_append_of_le_length (by omega), List.take_of_length_le (by omega)]
  have e4 : (ubytes (bs.length : Int) 4 ++ (bs ++ zs)).drop 4 = bs ++ zs := by rw [List.drop_append_of_le_length (by omega), List.drop_of_length_le (by omega), List.nil_append]
  have e5 : F.loVal (ubytes (bs.length : Int) 4) = (bs.length : Int) := by
    rw [ubytes_lo, loVal_mod 4 _ (by omega)]
    have e5 : (256 : Int) ^ 4 = 4294967296 := by decide
    rw [e5]; omega
  have e1 : (bs ++ zs).take bs.length = bs := by simp
  have e2 : (bs ++ zs).drop bs.length = zs := by simp
  have hall : ∀ y, y ∈ ubytes (bs.length : Int) 4 ++ (bs ++ zs) → 0 ≤ y ∧ y < 256 := fun y hy => by
    rcases List.mem_append.1 hy with h | h
    · exact F.loBytes_ok 4 (bs.length : Int) y (by rw [← ubytes_lo]; exact h)
    · rcases List.mem_append.1 h with h | h
      · exact hb y h
      · exact hz y h
  go_enter Try.func12, Try.ntmps12
  go_upto_region 1 with (fail)
  refine name_wp (fun w1 => Below w.heap.size w w1 ∧ w1.heap.size = w.heap.size + 1 ∧ Boxed12 w1 w.heap.size k n s A bs.length c ss)
    ⟨(Below.refl _ _).alloc (Nat.le_refl _) _, by simp, boxed_alloc _ _ _ _ _ _ _ _ _⟩ ?_
  rintro w1 ⟨hb1, hz1, hbx⟩
  have hR1 := h.up hb1
  have hL1 := hv.but (But.of_below hb1)
  have hB1 := hB.up hb1
  have hol := lt_of_get h.ho
  have ek : k.tmod 6 = k % 6 := Int.tmod_eq_emod_of_nonneg k0
  clear h hv hB
  rw [hk] at ek
  have hR := rlong_ok o r v (ubytes (bs.length : Int) 4 ++ (bs ++ zs)) hall hlen (bs.length : Int) (by omega) (by omega) bs.length (by simp; omega) (by rw [e3, e5]) (by omega) (by simp; omega) w1.drew (hR1.up (Below.refl _ _).drew) (hL1.but (But.of_below (Below.refl _ _).drew))
  rw [e4, e1, e2] at hR
  replace hR := Lib.hid hR
  clear hall e3 e4 e5 hu4
  have hcv1 := hcv.out w1.drew (hB1.up (Below.refl _ _).drew)
  have hB2 : ArgBytes w1.drew A bs := hB1.up (Below.refl _ _).drew
  have hbx2 : Boxed12 w1.drew w.heap.size k n s A bs.length c ss := hbx.up rfl
  obtain ⟨c0, c1, c2, c3, r4⟩ := hbx
  have hbd : Below w.heap.size w w1.drew := hb1.drew
  have hzd : w1.drew.heap.size = w.heap.size + 1 := hz1
  have hsz : ∀ xs : List Int, strOfNums xs = strOfNums xs := fun _ => rfl
  clear e1 e2 hb1 hz1
  go_upto_region 11 with (fail)
  clear c0 c1 c2 c3 r4
  obtain ⟨c0, c1, c2, c3, r4⟩ := hbx2
  have hbx2 : Boxed12 w1.drew w.heap.size k n s A bs.length c ss := ⟨c0, c1, c2, c3, r4⟩
  clear r4
  generalize hSS : strOfNums bs = SS at *
  go_region_with ((go_at_call 21; refine hR.out.mono ?_; rintro e w2 ⟨v1, v2, rfl, hb2, hR2, hL2, hF2⟩; have hcv2 := hcv.out w2 (arg_but hB2 hb2 hA); have c32 := (hbx2.up (hb2.block w.heap.size (by omega) (by omega))).c3; have hcv3 := Tx.conv (P := Try.prog) hF2.tx (src := 23) (e := 5) (dst := 9) Try.underlying23 Try.underlying5 Try.underlying9; rw [hSS] at hcv3))
  all_goals go_wp2
  all_goals go_ret
  all_goals exact ⟨v2, rfl, but_first hbd hb2, hR2, hL2⟩
end Go.Proofs.Ytdjgkojcckopaaa
