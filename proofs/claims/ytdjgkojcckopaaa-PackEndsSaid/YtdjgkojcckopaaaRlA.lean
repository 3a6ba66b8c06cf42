/-
  In a reading: bytes behind their number; a text.
-/
import Derived.Test.YtdjgkojcckopaaaRdF
namespace Go.Proofs.Ytdjgkojcckopaaa
open Go.RowKit Flow
set_option linter.unusedVariables false
set_option linter.unusedSimpArgs false

theorem Took.next {w w2 : World} {o r : Nat} {xs ys : List Int} {e : Ending} {w' : World} (hb : But o w w2) (h : Took w2 o r xs ys e w') : Took w o r xs ys e w' := by
  obtain ⟨v1, v2, h1, h2, h3, h4, h5⟩ := h
  exact ⟨v1, v2, h1, but_trans hb h2, h3, h4, h5.mono hb.size⟩
theorem Failed.next {w w2 : World} {o r : Nat} {c : Int} {e : Ending} {w' : World} (hb : But o w w2) (h : Failed w2 o r c e w') : Failed w o r c e w' := ⟨h.1, but_trans hb h.2.1, h.2.2⟩
/-- The most that Long takes, as it is held against. -/
theorem long_most (most : Int) (h0 : -9223372036854775808 ≤ most) (h1 : most < 9223372036854775808) : (0 < most → IntKind.u64.wrap most = most) ∧ IntKind.u64.wrap 0 = 0 := by
  refine ⟨fun h => ?_, ?_⟩ <;> (rw [IntKind.wrap_u64]; omega)
set_option maxHeartbeats 1000000 in
theorem rlong_ok (o r : Nat) (v : Value) (ys : List Int) (hy : ∀ y, y ∈ ys → 0 ≤ y ∧ y < 256) (hl : ys.length ≤ 1073741824) (most : Int) (m0 : -9223372036854775808 ≤ most) (m1 : most < 9223372036854775808) (n : Nat) (h4 : 4 ≤ ys.length) (hn : F.loVal (ys.take 4) = (n : Int))
    (hle : (n : Int) ≤ max 0 most) (hlen : 4 + n ≤ ys.length) (w : World) (h : Rd w o r v false 0) (hv : Lf w o v ys) :
    Calls Try.prog 21 #[.pointer (some ⟨r, 0, none⟩), .int .i64 most] w (Took w o r ((ys.drop 4).take n) ((ys.drop 4).drop n)) := by
  have hU := ruint_ok o r v ys hy 4 (by decide) h4 hl w h hv
  rw [hn] at hU
  replace hU := Lib.hid hU
  have hd : (ys.drop 4).length = ys.length - 4 := List.length_drop
  have n0 : (0 : Int) ≤ (n : Int) := by omega
  have n1 : (n : Int) ≤ 1073741824 := by omega
  obtain ⟨q1, q2⟩ := long_most most m0 m1
  replace hd := Lib.hid hd
  replace hn := Lib.hid hn
  replace m0 := Lib.hid m0
  replace m1 := Lib.hid m1
  have hK : ∀ w2 v2, Rd w2 o r v2 false 0 → Lf w2 o v2 (ys.drop 4) → Calls Try.prog 16 #[.pointer (some ⟨r, 0, none⟩), .int .i64 (n : Int)] w2 (Took w2 o r ((ys.drop 4).take n) ((ys.drop 4).drop n)) :=
    fun w2 v2 hR hL => rraw_ok o r v2 (ys.drop 4) n (by rw [hd.out]; omega) (by rw [hd.out]; omega) w2 hR hL
  replace hK := Lib.hid hK
  by_cases hm : 0 < most
  · have b0 : decide (most < (n : Int)) = false := by rw [decide_eq_false_iff_not]; omega
    have q3 := q1 hm
    clear q1 hle hy
    go_enter Try.func21, Try.ntmps21
    go_wp2_with fail
    refine hU.out.mono ?_
    rintro e w2 ⟨v2, rfl, hb2, hR2, hL2⟩
    have hR := Lib.hid (hK.out w2 v2 hR2 hL2)
    clear hK hU
    go_wp2_with fail
    refine hR.out.mono ?_
    rintro e w3 ⟨v3, v4, rfl, hb3, hR3, hL3, hF3⟩
    go_wp2
    go_ret
    exact Took.next hb2 ⟨v3, v4, rfl, hb3, hR3, hL3, hF3⟩
  · obtain rfl : n = 0 := by omega
    have b0 : decide ((0 : Int) < ((0 : Nat) : Int)) = false := by decide
    clear q1 hle hy
    go_enter Try.func21, Try.ntmps21
    go_wp2_with fail
    refine hU.out.mono ?_
    rintro e w2 ⟨v2, rfl, hb2, hR2, hL2⟩
    have hR := Lib.hid (hK.out w2 v2 hR2 hL2)
    clear hK hU
    go_wp2_with fail
    refine hR.out.mono ?_
    rintro e w3 ⟨v3, v4, rfl, hb3, hR3, hL3, hF3⟩
    go_wp2
    go_ret
    exact Took.next hb2 ⟨v3, v4, rfl, hb3, hR3, hL3, hF3⟩
set_option maxHeartbeats 1000000 in
theorem rlong_big (o r : Nat) (v : Value) (ys : List Int) (hy : ∀ y, y ∈ ys → 0 ≤ y ∧ y < 256) (hl : ys.length ≤ 1073741824) (most : Int) (m0 : -9223372036854775808 ≤ most) (m1 : most < 9223372036854775808) (n : Int) (h4 : 4 ≤ ys.length) (hn : F.loVal (ys.take 4) = n)
    (hle : max 0 most < n) (w : World) (h : Rd w o r v false 0) (hv : Lf w o v ys) :
    Calls Try.prog 21 #[.pointer (some ⟨r, 0, none⟩), .int .i64 most] w (Failed w o r 4) := by
  have hU := ruint_ok o r v ys hy 4 (by decide) h4 hl w h hv
  rw [hn] at hU
  replace hU := Lib.hid hU
  obtain ⟨q1, q2⟩ := long_most most m0 m1
  replace hn := Lib.hid hn
  replace m0 := Lib.hid m0
  replace m1 := Lib.hid m1
  by_cases hm : 0 < most
  · have b0 : decide (most < n) = true := by rw [decide_eq_true_eq]; omega
    have q3 := q1 hm
    clear q1 hle hy
    go_enter Try.func21, Try.ntmps21
    go_wp2_with fail
    refine hU.out.mono ?_
    rintro e w2 ⟨v2, rfl, hb2, hR2, hL2⟩
    have hR := Lib.hid (fail_any o r v2 0 4 (by decide) w2 hR2)
    clear hU
    go_wp2_with fail
    refine hR.out.mono ?_
    rintro e w3 ⟨rfl, hb3, hR3⟩
    go_wp2
    exact ⟨rfl, Failed.next hb2 ⟨rfl, hb3, hR3⟩⟩
  · have b0 : decide (0 < n) = true := by rw [decide_eq_true_eq]; omega
    clear q1 hle hy
    go_enter Try.func21, Try.ntmps21
    go_wp2_with fail
    refine hU.out.mono ?_
    rintro e w2 ⟨v2, rfl, hb2, hR2, hL2⟩
    have hR := Lib.hid (fail_any o r v2 0 4 (by decide) w2 hR2)
    clear hU
    go_wp2_with fail
    refine hR.out.mono ?_
    rintro e w3 ⟨rfl, hb3, hR3⟩
    go_wp2
    exact ⟨rfl, Failed.next hb2 ⟨rfl, hb3, hR3⟩⟩
set_option maxHeartbeats 1000000 in
theorem rlong_short1 (o r : Nat) (A : Option Addr) (n c : Nat) (most : Int) (hn : n < 4) (w : World) (h : Rd w o r (.slice A n c) false 0) :
    Calls Try.prog 21 #[.pointer (some ⟨r, 0, none⟩), .int .i64 most] w (Failed w o r 3) := by
  have hU := Lib.hid (ruint_short o r A n c 4 (by decide) hn w h)
  go_enter Try.func21, Try.ntmps21
  go_wp2_with fail
  refine hU.out.mono ?_
  rintro e w2 ⟨rfl, hb2, hR2⟩
  go_wp2
  exact ⟨rfl, rfl, hb2, hR2⟩
set_option maxHeartbeats 1000000 in
theorem rlong_short2 (o r : Nat) (v : Value) (ys : List Int) (hy : ∀ y, y ∈ ys → 0 ≤ y ∧ y < 256) (hl : ys.length ≤ 1073741824) (most : Int) (m0 : -9223372036854775808 ≤ most) (m1 : most < 9223372036854775808) (n : Nat) (h4 : 4 ≤ ys.length) (hn : F.loVal (ys.take 4) = (n : Int))
    (hle : (n : Int) ≤ max 0 most) (hlen : ys.length < 4 + n) (w : World) (h : Rd w o r v false 0) (hv : Lf w o v ys) :
    Calls Try.prog 21 #[.pointer (some ⟨r, 0, none⟩), .int .i64 most] w (Failed w o r 3) := by
  have hU := ruint_ok o r v ys hy 4 (by decide) h4 hl w h hv
  rw [hn] at hU
  replace hU := Lib.hid hU
  have hd : (ys.drop 4).length = ys.length - 4 := List.length_drop
  have hn4 : (n : Int) < 4294967296 := by
    have hb := F.loVal_bound (ys.take 4) (fun y hy' => hy y (List.mem_of_mem_take hy'))
    have e4 : (ys.take 4).length = 4 := by simp; omega
    rw [e4, hn] at hb
    have e5 : (256 : Int) ^ 4 = 4294967296 := by decide
    omega
  have n0 : (0 : Int) ≤ (n : Int) := by omega
  obtain ⟨q1, q2⟩ := long_most most m0 m1
  replace hn := Lib.hid hn
  replace m0 := Lib.hid m0
  replace m1 := Lib.hid m1
  have hm : 0 < most := by omega
  have b0 : decide (most < (n : Int)) = false := by rw [decide_eq_false_iff_not]; omega
  have q3 := q1 hm
  have hK : ∀ w2 A c, Rd w2 o r (.slice A (ys.length - 4) c) false 0 → Calls Try.prog 16 #[.pointer (some ⟨r, 0, none⟩), .int .i64 (n : Int)] w2 (Failed w2 o r 3) :=
    fun w2 A c hR => rraw_short o r A (ys.length - 4) c (n : Int) (.inr (by omega)) w2 hR
  replace hK := Lib.hid hK
  replace hd := Lib.hid hd
  clear q1 hle hy hlen hl h4
  go_enter Try.func21, Try.ntmps21
  go_wp2_with fail
  refine hU.out.mono ?_
  rintro e w2 ⟨v2, rfl, hb2, hR2, hL2⟩
  obtain ⟨A2, c2, rfl⟩ := hL2.slice
  rw [hd.out] at hR2
  have hR := Lib.hid (hK.out w2 A2 c2 hR2)
  clear hK hU
  go_wp2_with fail
  refine hR.out.mono ?_
  rintro e w3 ⟨rfl, hb3, hR3⟩
  go_wp2
  exact ⟨rfl, Failed.next hb2 ⟨rfl, hb3, hR3⟩⟩
/-- A text was taken. -/
def TookS (w : World) (o r : Nat) (xs ys : List Int) (e : Ending) (w' : World) : Prop := ∃ v2, e = .returned (.string (strOfNums xs)) ∧ But o w w' ∧ Rd w' o r v2 false 0 ∧ Lf w' o v2 ys
set_option maxHeartbeats 1000000 in
theorem rtext_ok (o r : Nat) (v : Value) (n : Nat) (ys : List Int) (hn : n < 256) (hy : ∀ y, y ∈ ys → 0 ≤ y ∧ y < 256) (hl : ys.length < 1073741824) (hlen : n ≤ ys.length) (w : World) (h : Rd w o r v false 0) (hv : Lf w o v ((n : Int) :: ys)) :
    Calls Try.prog 27 #[.pointer (some ⟨r, 0, none⟩)] w (TookS w o r (ys.take n) (ys.drop n)) := by
  have hU := ruint_ok o r v ((n : Int) :: ys) (fun y h => by
    rcases List.mem_cons.1 h with rfl | h
    · omega
    · exact hy y h) 1 (by decide) (by simp) (by simp; omega) w h hv
  have e1 : F.loVal (((n : Int) :: ys).take 1) = (n : Int) := by simp [F.loVal]
  have e2 : ((n : Int) :: ys).drop 1 = ys := rfl
  rw [e1, e2] at hU
  have n0 : (0 : Int) ≤ (n : Int) := by omega
  have n1 : (n : Int) < 256 := by omega
  have hK : ∀ w2 v2, Rd w2 o r v2 false 0 → Lf w2 o v2 ys → Calls Try.prog 16 #[.pointer (some ⟨r, 0, none⟩), .int .i64 (n : Int)] w2 (Took w2 o r (ys.take n) (ys.drop n)) :=
    fun w2 v2 hR hL => rraw_ok o r v2 ys n hlen (by omega) w2 hR hL
  replace hK := Lib.hid hK
  replace hU := Lib.hid hU
  clear e1 e2 hy hl hlen hv
  go_enter Try.func27, Try.ntmps27
  go_wp2_with fail
  refine hU.out.mono ?_
  rintro e w2 ⟨v2, rfl, hb2, hR2, hL2⟩
  have hR := Lib.hid (hK.out w2 v2 hR2 hL2)
  clear hK hU
  go_wp2_with fail
  refine hR.out.mono ?_
  rintro e w3 ⟨v3, v4, rfl, hb3, hR3, hL3, hF3⟩
  have hcv := Tx.conv (P := Try.prog) hF3.tx (src := 23) (e := 5) (dst := 9) Try.underlying23 Try.underlying5 Try.underlying9
  clear hR
  go_wp2
  go_ret
  exact ⟨v4, rfl, but_trans hb2 hb3, hR3, hL3⟩
set_option maxHeartbeats 1000000 in
theorem rtext_short0 (o r : Nat) (A : Option Addr) (c : Nat) (w : World) (h : Rd w o r (.slice A 0 c) false 0) :
    Calls Try.prog 27 #[.pointer (some ⟨r, 0, none⟩)] w (Failed w o r 3) := by
  have hU := Lib.hid (ruint_short o r A 0 c 1 (by decide) (by decide) w h)
  go_enter Try.func27, Try.ntmps27
  go_wp2_with fail
  refine hU.out.mono ?_
  rintro e w2 ⟨rfl, hb2, hR2⟩
  go_wp2
  exact ⟨rfl, rfl, hb2, hR2⟩
set_option maxHeartbeats 1000000 in
theorem rtext_short (o r : Nat) (v : Value) (n : Nat) (ys : List Int) (hn : n < 256) (hy : ∀ y, y ∈ ys → 0 ≤ y ∧ y < 256) (hlen : ys.length < n) (w : World) (h : Rd w o r v false 0) (hv : Lf w o v ((n : Int) :: ys)) :
    Calls Try.prog 27 #[.pointer (some ⟨r, 0, none⟩)] w (Failed w o r 3) := by
  have hU := ruint_ok o r v ((n : Int) :: ys) (fun y h => by
    rcases List.mem_cons.1 h with rfl | h
    · omega
    · exact hy y h) 1 (by decide) (by simp) (by simp; omega) w h hv
  have e1 : F.loVal (((n : Int) :: ys).take 1) = (n : Int) := by simp [F.loVal]
  have e2 : ((n : Int) :: ys).drop 1 = ys := rfl
  rw [e1, e2] at hU
  have n0 : (0 : Int) ≤ (n : Int) := by omega
  have n1 : (n : Int) < 256 := by omega
  have hK : ∀ w2 A c, Rd w2 o r (.slice A ys.length c) false 0 → Calls Try.prog 16 #[.pointer (some ⟨r, 0, none⟩), .int .i64 (n : Int)] w2 (Failed w2 o r 3) :=
    fun w2 A c hR => rraw_short o r A ys.length c (n : Int) (.inr (by omega)) w2 hR
  replace hK := Lib.hid hK
  replace hU := Lib.hid hU
  clear e1 e2 hy hlen hv
  go_enter Try.func27, Try.ntmps27
  go_wp2_with fail
  refine hU.out.mono ?_
  rintro e w2 ⟨v2, rfl, hb2, hR2, hL2⟩
  obtain ⟨A2, c2, rfl⟩ := hL2.slice
  have hR := Lib.hid (hK.out w2 A2 c2 hR2)
  clear hK hU
  go_wp2_with fail
  refine hR.out.mono ?_
  rintro e w3 ⟨rfl, hb3, hR3⟩
  go_wp2
  exact ⟨rfl, Failed.next hb2 ⟨rfl, hb3, hR3⟩⟩
end Go.Proofs.Ytdjgkojcckopaaa
