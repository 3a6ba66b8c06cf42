/-
  What else is taken: so many bytes, nothing but an error, bytes behind their number.
-/
import Derived.Test.YtdjgkojcckopaaaRlQ
namespace Go.Proofs.Ytdjgkojcckopaaa
open Go.RowKit Flow
set_option linter.unusedVariables false
set_option linter.unusedSimpArgs false

theorem fail_zero (o r : Nat) (v : Value) (w : World) (h : Rd w o r v false 0) : Calls Try.prog 18 #[.pointer (some ⟨r, 0, none⟩), .int .i64 0] w fun e w' => e = .returned (.tuple #[]) ∧ w' = w := by
  have hO := Lib.hid (open_any o r v false 0 w h)
  clear h
  go_enter Try.func18, Try.ntmps18
  go_wp2_with fail
  refine hO.out.mono ?_
  rintro e w2 ⟨rfl, rfl⟩
  go_wp2
  refine bodyPost_ret (results_none rfl _ _ _) rfl ?_
  exact ⟨rfl, rfl⟩
/-- So many bytes were asked for. -/
def RawS (wr : World) (bb : Nat) (len : Nat) (many : Int) (c : Int) (k : Nat) (w2 : World) : Prop :=
  But bb wr w2 ∧ ((0 ≤ many ∧ many ≤ (len : Int) ∧ c = 0 ∧ k = len - many.toNat ∧ w2.heap[bb]? = some (.cells #[.bool true] 4 (0, 0))) ∨ ((many < 0 ∨ (len : Int) < many) ∧ c = 3 ∧ k = 0 ∧ w2.heap[bb]? = some (.cells #[.bool false] 4 (0, 0))))
set_option maxHeartbeats 2000000 in
theorem ends2_ok (wr : World) (mb bb : Nat) (many : Int) (hmb : wr.heap[mb]? = some (.cells #[.int .i64 many] 3 (0, 0))) (hbb : wr.heap[bb]? = some (.cells #[.bool false] 4 (0, 0))) (ys : List Int) (hlen : ys.length ≤ 1073741824) (v : Value) (hx : Tx wr v ys) (w1 : World) (hin : TakeIn wr.heap.size v wr w1) :
    Calls Try.prog 15 (#[.pointer (some ⟨wr.heap.size + 3, 0, none⟩)] ++ #[.pointer (some ⟨mb, 0, none⟩), .pointer (some ⟨bb, 0, none⟩)]) w1 (TakeOut wr.heap.size (RawS wr bb ys.length many)) := by
  have lbb := lt_of_get hbb
  have kbb := (hin.hb.block bb lbb).trans hbb
  have hL : Lf w1 (wr.heap.size + 1) v ys := (hx.lf (by omega)).up hin.hb
  have lmb := lt_of_get hmb
  have kmb := (hin.hb.block mb lmb).trans hmb
  obtain ⟨hinb, hin0, hin2, hinR, hinz⟩ := hin
  obtain ⟨d0, g0⟩ := one_at kmb
  have hbutw : But bb wr w1 := But.of_below hinb
  clear hmb hbb hx
  by_cases hm : 0 ≤ many ∧ many ≤ (ys.length : Int)
  · obtain ⟨m, rfl⟩ := Int.eq_ofNat_of_zero_le hm.1
    have hml : m ≤ ys.length := by omega
    have hR := Lib.hid (rraw_ok (wr.heap.size + 1) (wr.heap.size + 3) v ys m hml hlen w1 hinR hL)
    replace hlen := Lib.hid hlen
    go_enter Try.func15, Try.ntmps15
    go_wp2_with fail
    refine hR.out.mono ?_
    rintro e w2 ⟨v1, v2, rfl, hb2, hR2, hL2, hF2⟩
    have k2 := (hb2.block bb (lt_of_get kbb) (by omega)).trans kbb
    have q0 := (hb2.block wr.heap.size (lt_of_get hin0) (by omega)).trans hin0
    have q2 := (hb2.block (wr.heap.size + 2) (lt_of_get hin2) (by omega)).trans hin2
    have hbw := but_new hbutw (by omega) hb2
    obtain ⟨A2, c2, rfl⟩ := hL2.slice
    have hdl : (ys.drop m).length = ys.length - m := List.length_drop
    rw [hdl] at hR2
    obtain ⟨e2, f2⟩ := one_at k2
    clear hR hL2 hF2 d0 g0
    go_wp2
    go_end0
    exact ⟨store_far q0 (by show wr.heap.size ≠ bb; omega), store_far q2 (by show wr.heap.size + 2 ≠ bb; omega), .inl ⟨rfl, A2, _, c2, ⟨store_far hR2.hr (by show wr.heap.size + 3 ≠ bb; omega), store_far hR2.ho (by show wr.heap.size + 1 ≠ bb; omega), hR2.hne⟩, hbw.set _, .inl ⟨hm.1, hm.2, rfl, by simp, (store1 k2 (o := 0) (v := .bool true)).trans rfl⟩⟩⟩
  · have hm' : many < 0 ∨ (ys.length : Int) < many := by omega
    obtain ⟨A2, c2, rfl⟩ := hL.slice
    have hR := Lib.hid (rraw_short (wr.heap.size + 1) (wr.heap.size + 3) A2 ys.length c2 many hm' w1 hinR)
    replace hlen := Lib.hid hlen
    replace hm' := Lib.hid hm'
    clear hm hL
    go_enter Try.func15, Try.ntmps15
    go_wp2_with fail
    refine hR.out.mono ?_
    rintro e w2 ⟨rfl, hb2, hR2⟩
    have k2 := (hb2.block bb (lt_of_get kbb) (by omega)).trans kbb
    have q0 := (hb2.block wr.heap.size (lt_of_get hin0) (by omega)).trans hin0
    have q2 := (hb2.block (wr.heap.size + 2) (lt_of_get hin2) (by omega)).trans hin2
    have hbw := but_new hbutw (by omega) hb2
    clear hR d0 g0
    go_wp2
    exact ⟨rfl, q0, q2, .inr ⟨rfl, 3, hR2, hbw, .inr ⟨hm'.out, rfl, rfl, k2⟩⟩⟩
/-- An error was said. -/
def FailS (wr : World) (bb : Nat) (code : Int) (c : Int) (k : Nat) (w2 : World) : Prop :=
  But bb wr w2 ∧ k = 0 ∧ c = code ∧ w2.heap[bb]? = some (.cells #[.bool (code == 0)] 4 (0, 0))
set_option maxHeartbeats 2000000 in
theorem ends3_ok (wr : World) (mb bb : Nat) (code : Int) (hmb : wr.heap[mb]? = some (.cells #[.int .i64 code] 3 (0, 0))) (hbb : wr.heap[bb]? = some (.cells #[.bool false] 4 (0, 0))) (w1 : World) (hin : TakeIn wr.heap.size (.slice none 0 0) wr w1) :
    Calls Try.prog 17 (#[.pointer (some ⟨wr.heap.size + 3, 0, none⟩)] ++ #[.pointer (some ⟨mb, 0, none⟩), .pointer (some ⟨bb, 0, none⟩)]) w1 (TakeOut wr.heap.size (FailS wr bb code)) := by
  have lbb := lt_of_get hbb
  have kbb := (hin.hb.block bb lbb).trans hbb
  have lmb := lt_of_get hmb
  have kmb := (hin.hb.block mb lmb).trans hmb
  obtain ⟨hinb, hin0, hin2, hinR, hinz⟩ := hin
  obtain ⟨d0, g0⟩ := one_at kmb
  have hbutw : But bb wr w1 := But.of_below hinb
  clear hmb hbb
  by_cases hc : code = 0
  · subst hc
    have hR := Lib.hid (fail_zero (wr.heap.size + 1) (wr.heap.size + 3) _ w1 hinR)
    go_enter Try.func17, Try.ntmps17
    go_wp2_with fail
    refine hR.out.mono ?_
    rintro e w2 ⟨rfl, rfl⟩
    obtain ⟨e2, f2⟩ := one_at kbb
    clear hR d0 g0
    go_wp2
    go_end0
    exact ⟨store_far hin0 (by show wr.heap.size ≠ bb; omega), store_far hin2 (by show wr.heap.size + 2 ≠ bb; omega), .inl ⟨rfl, none, 0, 0, ⟨store_far hinR.hr (by show wr.heap.size + 3 ≠ bb; omega), store_far hinR.ho (by show wr.heap.size + 1 ≠ bb; omega), hinR.hne⟩, hbutw.set _, rfl, rfl, (store1 kbb (o := 0) (v := .bool true)).trans rfl⟩⟩
  · have hR := Lib.hid (fail_any (wr.heap.size + 1) (wr.heap.size + 3) _ 0 code hc w1 hinR)
    have hcb : (code == 0) = false := by simpa using hc
    replace hc := Lib.hid hc
    replace hcb := Lib.hid hcb
    go_enter Try.func17, Try.ntmps17
    go_wp2_with fail
    refine hR.out.mono ?_
    rintro e w2 ⟨rfl, hb2, hR2⟩
    have k2 := (hb2.block bb (lt_of_get kbb) (by omega)).trans kbb
    have q0 := (hb2.block wr.heap.size (lt_of_get hin0) (by omega)).trans hin0
    have q2 := (hb2.block (wr.heap.size + 2) (lt_of_get hin2) (by omega)).trans hin2
    have hbw := but_new hbutw (by omega) hb2
    clear hR d0 g0
    go_wp2
    exact ⟨rfl, q0, q2, .inr ⟨rfl, code, hR2, hbw, rfl, rfl, by rw [hcb.out]; exact k2⟩⟩
/-- Bytes behind their number were asked for. -/
def LongS (wr : World) (len : Nat) (most : Int) (c : Int) (k : Nat) (w2 : World) : Prop :=
  Below wr.heap.size wr w2 ∧ k = 0 ∧ (((len : Int) ≤ max most 0 ∧ c = 0) ∨ (max most 0 < (len : Int) ∧ c = 4))
set_option maxHeartbeats 2000000 in
theorem ends4_ok (wr : World) (mb : Nat) (most : Int) (m0 : -9223372036854775808 ≤ most) (m1 : most < 9223372036854775808) (hmb : wr.heap[mb]? = some (.cells #[.int .i64 most] 3 (0, 0))) (bs : List Int) (hb : ∀ y, y ∈ bs → 0 ≤ y ∧ y < 256) (hlen : bs.length ≤ 1073741820) (v : Value) (hx : Tx wr v (ubytes (bs.length : Int) 4 ++ bs))
    (w1 : World) (hin : TakeIn wr.heap.size v wr w1) :
    Calls Try.prog 20 (#[.pointer (some ⟨wr.heap.size + 3, 0, none⟩)] ++ #[.pointer (some ⟨mb, 0, none⟩)]) w1 (TakeOut wr.heap.size (LongS wr bs.length most)) := by
  have hL : Lf w1 (wr.heap.size + 1) v (ubytes (bs.length : Int) 4 ++ bs) := (hx.lf (by omega)).up hin.hb
  have lmb := lt_of_get hmb
  have kmb := (hin.hb.block mb lmb).trans hmb
  obtain ⟨hinb, hin0, hin2, hinR, hinz⟩ := hin
  obtain ⟨d0, g0⟩ := one_at kmb
  clear hmb hx
  have hu4 := ubytes_len (bs.length : Int) 4
  have e3 : (ubytes (bs.length : Int) 4 ++ bs).take 4 = ubytes (bs.length : Int) 4 := by rw [List.take_append_of_le_length (by omega), List.take_of_length_le (by omega)]
  have e4 : (ubytes (bs.length : Int) 4 ++ bs).drop 4 = bs := by rw [List.drop_append_of_le_length (by omega), List.drop_of_length_le (by omega), List.nil_append]
  have e5 : F.loVal (ubytes (bs.length : Int) 4) = (bs.length : Int) := by
    rw [ubytes_lo, loVal_mod 4 _ (by omega)]
    have e5 : (256 : Int) ^ 4 = 4294967296 := by decide
    rw [e5]; omega
  have hall : ∀ y, y ∈ ubytes (bs.length : Int) 4 ++ bs → 0 ≤ y ∧ y < 256 := fun y hy => by
    rcases List.mem_append.1 hy with h | h
    · exact F.loBytes_ok 4 (bs.length : Int) y (by rw [← ubytes_lo]; exact h)
    · exact hb y h
  have hll : (ubytes (bs.length : Int) 4 ++ bs).length = 4 + bs.length := by rw [List.length_append, hu4]
  by_cases hm : (bs.length : Int) ≤ max most 0
  · have hR := rlong_ok (wr.heap.size + 1) (wr.heap.size + 3) v _ hall (by rw [hll]; omega) most m0 m1 bs.length (by rw [hll]; omega) (by rw [e3, e5]) (by omega) (by rw [hll]; omega) w1 hinR hL
    rw [e4, List.take_length, List.drop_length] at hR
    replace hR := Lib.hid hR
    clear e3 e4 e5 hall hll hu4 hL hb
    replace hlen := Lib.hid hlen
    replace hm := Lib.hid hm
    replace m0 := Lib.hid m0
    replace m1 := Lib.hid m1
    go_enter Try.func20, Try.ntmps20
    go_wp2_with fail
    refine hR.out.mono ?_
    rintro e w2 ⟨v1, v2, rfl, hb2, hR2, hL2, hF2⟩
    have q0 := (hb2.block wr.heap.size (lt_of_get hin0) (by omega)).trans hin0
    have q2 := (hb2.block (wr.heap.size + 2) (lt_of_get hin2) (by omega)).trans hin2
    have hbn : Below wr.heap.size wr w2 := hb2.below hinb (by omega) hinb.size
    obtain ⟨A2, c2, rfl⟩ := hL2.slice
    clear hR hL2 hF2 d0 g0
    go_wp2
    go_end0
    exact ⟨q0, q2, .inl ⟨rfl, A2, 0, c2, hR2, hbn, rfl, .inl ⟨hm.out, rfl⟩⟩⟩
  · have hm' : max most 0 < (bs.length : Int) := by omega
    have hR := Lib.hid (rlong_big (wr.heap.size + 1) (wr.heap.size + 3) v _ hall (by rw [hll]; omega) most m0 m1 (bs.length : Int) (by rw [hll]; omega) (by rw [e3, e5]) (by omega) w1 hinR hL)
    clear e3 e4 e5 hall hll hu4 hL hb hm
    replace hlen := Lib.hid hlen
    replace hm' := Lib.hid hm'
    replace m0 := Lib.hid m0
    replace m1 := Lib.hid m1
    go_enter Try.func20, Try.ntmps20
    go_wp2_with fail
    refine hR.out.mono ?_
    rintro e w2 ⟨rfl, hb2, hR2⟩
    have q0 := (hb2.block wr.heap.size (lt_of_get hin0) (by omega)).trans hin0
    have q2 := (hb2.block (wr.heap.size + 2) (lt_of_get hin2) (by omega)).trans hin2
    have hbn : Below wr.heap.size wr w2 := hb2.below hinb (by omega) hinb.size
    clear hR d0 g0
    go_wp2
    exact ⟨rfl, q0, q2, .inr ⟨rfl, 4, hR2, hbn, rfl, .inr ⟨hm'.out, rfl⟩⟩⟩
end Go.Proofs.Ytdjgkojcckopaaa
