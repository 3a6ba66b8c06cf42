/-
  A Reader outside of a reading: it does nothing.
-/
import Derived.Test.YtdjgkojcckopaaaRdF
namespace Go.Proofs.Ytdjgkojcckopaaa
open Go.RowKit Flow
set_option linter.unusedVariables false
set_option linter.unusedSimpArgs false

/-- A Reader that is none, or whose reading has ended. -/
def Shut (w : World) (p : Value) : Prop := p = .pointer none ∨ ∃ o r err, p = .pointer (some ⟨r, 0, none⟩) ∧ Rd w o r (.slice none 0 0) true err
theorem Shut.up {w w' : World} {p : Value} (h : Shut w p) (hb : Below w.heap.size w w') : Shut w' p := by
  rcases h with h | ⟨o, r, err, h, hR⟩
  · exact .inl h
  · exact .inr ⟨o, r, err, h, hR.up hb⟩
theorem open_shut (p : Value) (w : World) (h : Shut w p) : Calls Try.prog 39 #[p] w fun e w' => e = .returned (.bool false) ∧ w' = w := by
  rcases h with rfl | ⟨o, r, err, rfl, hR⟩
  · go_enter Try.func39, Try.ntmps39
    go_wp2
    go_ret
    exact ⟨rfl, rfl⟩
  · exact open_any o r _ true err w hR
theorem fail_shut (p : Value) (c : Int) (w : World) (h : Shut w p) : Calls Try.prog 18 #[p, .int .i64 c] w fun e w' => e = .returned (.tuple #[]) ∧ w' = w := by
  have hO := Lib.hid (open_shut p w h)
  clear h
  go_enter Try.func18, Try.ntmps18
  go_wp2_with fail
  refine hO.out.mono ?_
  rintro e w2 ⟨rfl, rfl⟩
  go_wp2
  refine bodyPost_ret (results_none rfl _ _ _) rfl ?_
  exact ⟨rfl, rfl⟩
theorem raw_shut (p : Value) (m : Int) (w : World) (h : Shut w p) : Calls Try.prog 16 #[p, .int .i64 m] w fun e w' => e = .returned (.slice none 0 0) ∧ w' = w := by
  have hO := Lib.hid (open_shut p w h)
  clear h
  go_enter Try.func16, Try.ntmps16
  go_wp2_with fail
  refine hO.out.mono ?_
  rintro e w2 ⟨rfl, rfl⟩
  go_wp2
  go_ret
  exact ⟨rfl, rfl⟩
theorem left_shut (p : Value) (w : World) (h : Shut w p) : Calls Try.prog 13 #[p] w fun e w' => e = .returned (.int .i64 0) ∧ w' = w := by
  have hO := Lib.hid (open_shut p w h)
  clear h
  go_enter Try.func13, Try.ntmps13
  go_wp2_with fail
  refine hO.out.mono ?_
  rintro e w2 ⟨rfl, rfl⟩
  go_wp2
  go_ret
  exact ⟨rfl, rfl⟩
def Sized (w : World) (e : Ending) (w' : World) : Prop := ∃ k : Nat, k ≤ 8 ∧ e = .returned (.int .i64 (k : Int)) ∧ Below w.heap.size w w'
theorem sized_any (x : Int) (w : World) : Calls Try.prog 40 #[.int .i64 x] w (Sized w) := by
  by_cases h0 : x ≤ 0
  · have e1 : max (0 : Int) x = 0 := by omega
    have e2 : min (0 : Int) 8 = 0 := by omega
    go_enter Try.func40, Try.ntmps40
    go_wp2
    all_goals go_ret
    all_goals exact ⟨0, by decide, rfl, Below.refl _ _⟩
  · obtain ⟨n, rfl⟩ := Int.eq_ofNat_of_zero_le (show 0 ≤ x by omega)
    by_cases h8 : n ≤ 8
    · exact (sized_nat n h8 w).mono fun e w' ⟨h1, h2⟩ => ⟨n, h8, h1, h2⟩
    · have e1 : max (0 : Int) (n : Int) = (n : Int) := by omega
      have e2 : min (n : Int) 8 = 8 := by omega
      have e3 : (0 : Int) < (n : Int) := by omega
      have e4 : (8 : Int) < (n : Int) := by omega
      go_enter Try.func40, Try.ntmps40
      go_wp2
      all_goals go_ret
      all_goals exact ⟨8, by decide, rfl, Below.refl _ _⟩
theorem uint_shut (p : Value) (x : Int) (w : World) (h : Shut w p) : Calls Try.prog 26 #[p, .int .i64 x] w fun e w' => e = .returned (.int .u64 0) ∧ Below w.heap.size w w' := by
  have hS := Lib.hid (sized_any x w)
  go_enter Try.func26, Try.ntmps26
  go_wp2_with fail
  refine hS.out.mono ?_
  rintro e w2 ⟨k, hk, rfl, hb⟩
  have hR := Lib.hid (raw_shut p (k : Int) w2 (h.up hb))
  clear h hS
  go_wp2_with fail
  refine hR.out.mono ?_
  rintro e w3 ⟨rfl, rfl⟩
  go_wp2_with fail
  go_loop [5, 13] (fun n i => n = .int .u64 0 ∧ i = .int .i64 0) (fun _ i => 0)
  case atStart => exact ⟨rfl, rfl⟩
  case round =>
    obtain ⟨rfl, rfl⟩ := hrel
    go_wp2
    go_ret
    exact ⟨rfl, hb⟩
theorem count_shut (p : Value) (x most : Int) (hm : 0 ≤ most) (w : World) (h : Shut w p) : Calls Try.prog 24 #[p, .int .i64 x, .int .u64 most] w fun e w' => e = .returned (.int .i64 0) ∧ Below w.heap.size w w' := by
  have hU := Lib.hid (uint_shut p x w h)
  have b0 : decide (most < 0) = false := by rw [decide_eq_false_iff_not]; omega
  clear h
  go_enter Try.func24, Try.ntmps24
  go_wp2_with fail
  refine call_then hU.out ?_
  intro w2 hb
  go_wp2
  go_ret
  exact ⟨rfl, hb⟩
theorem long_shut (p : Value) (x : Int) (h0 : -9223372036854775808 ≤ x) (h1 : x ≤ 9223372036854775807) (w : World) (h : Shut w p) : Calls Try.prog 21 #[p, .int .i64 x] w fun e w' => e = .returned (.slice none 0 0) ∧ Below w.heap.size w w' := by
  have hU := Lib.hid (uint_shut p 4 w h)
  have b1 : ¬ IntKind.u64.wrap x < 0 := by rw [IntKind.wrap_u64]; omega
  have b2 : ¬ IntKind.u64.wrap 0 < 0 := by rw [IntKind.wrap_u64]; omega
  replace h0 := Lib.hid h0
  replace h1 := Lib.hid h1
  by_cases hx : 0 < x
  · go_enter Try.func21, Try.ntmps21
    go_wp2_with fail
    refine call_then hU.out ?_
    intro w2 hb
    have hR := Lib.hid (fun m => raw_shut p m w2 (h.up hb))
    clear h hU
    go_wp2_with fail
    refine (hR.out 0).mono ?_
    rintro e w3 ⟨rfl, rfl⟩
    go_wp2
    go_ret
    exact ⟨rfl, hb⟩
  · go_enter Try.func21, Try.ntmps21
    go_wp2_with fail
    refine call_then hU.out ?_
    intro w2 hb
    have hR := Lib.hid (fun m => raw_shut p m w2 (h.up hb))
    clear h hU
    go_wp2_with fail
    refine (hR.out 0).mono ?_
    rintro e w3 ⟨rfl, rfl⟩
    go_wp2
    go_ret
    exact ⟨rfl, hb⟩
theorem text_shut (p : Value) (w : World) (h : Shut w p) : Calls Try.prog 27 #[p] w fun e w' => e = .returned (.string ⟨#[]⟩) ∧ Below w.heap.size w w' := by
  have hU := Lib.hid (uint_shut p 1 w h)
  have hcv : ∀ w, (convert 23 9 (.slice none 0 0)).run Try.prog w = .ok (.string ⟨#[]⟩) w := fun w => by
    have := Tx.conv (P := Try.prog) (w := w) (v := .slice none 0 0) (xs := []) (.inl ⟨rfl, rfl⟩) (src := 23) (e := 5) (dst := 9) Try.underlying23 Try.underlying5 Try.underlying9
    exact this
  go_enter Try.func27, Try.ntmps27
  go_wp2_with fail
  refine call_then hU.out ?_
  intro w2 hb
  have hR := Lib.hid (raw_shut p 0 w2 (h.up hb))
  clear h hU
  go_wp2_with fail
  refine hR.out.mono ?_
  rintro e w3 ⟨rfl, rfl⟩
  go_wp2
  go_ret
  exact ⟨rfl, hb⟩
end Go.Proofs.Ytdjgkojcckopaaa
