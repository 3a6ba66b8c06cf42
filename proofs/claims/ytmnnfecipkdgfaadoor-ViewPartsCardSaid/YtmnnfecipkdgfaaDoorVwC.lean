/-
  A code as a text, a number that may be below 0.
-/
import Derived.Test.YtmnnfecipkdgfaaDoorVwB
import Derived.Laws.Concat
namespace Go.Proofs.YtmnnfecipkdgfaaDoor
open Go.RowKit Flow Go.Sort
set_option linter.unusedVariables false
set_option linter.unusedSimpArgs false

def okS : ByteArray := ⟨#[111, 107]⟩
def errS : ByteArray := ⟨#[101, 114, 114, 111, 114, 32]⟩
/-- A code's text. -/
def cods (c : Int) : ByteArray := if c = 0 then ⟨#[111, 107]⟩ else if c < 0 then ⟨#[63]⟩ else (⟨#[101, 114, 114, 111, 114, 32]⟩ : ByteArray) ++ prn c.toNat
theorem prn_size {u : Nat} (h : u < 18446744073709551616) : ((prn u).size : Int) ≤ 30 := by
  have e : (prn u).size = Lib.nDigits u := by
    rw [← Lib.decDigits_length]
    unfold prn
    simp [ByteArray.size]
  rw [e]
  by_cases h0 : u < 10
  · rw [Lib.nDigits_small h0]; omega
  · have := Lib.numDigits_eq u (by omega) h
    split at this <;> omega
theorem cods_size {c : Int} (h : c < 9223372036854775808) : ((cods c).size : Int) ≤ 40 := by
  unfold cods
  split
  · decide
  · split
    · decide
    · have := prn_size (u := c.toNat) (by omega)
      rw [ByteArray.size_append]
      have e : (⟨#[101, 114, 114, 111, 114, 32]⟩ : ByteArray).size = 6 := rfl
      omega
theorem number_any (n : Int) (hn : n < 9223372036854775808) (w : World) (ht : Tab w) : Calls Tryd.prog 14 #[.int .i64 n] w fun e w' => e = .returned (.string (prn n.toNat)) ∧ Below w.heap.size w w' := by
  by_cases h0 : 0 ≤ n
  · obtain ⟨m, rfl⟩ := Int.eq_ofNat_of_zero_le h0
    rw [Int.toNat_natCast]
    have hc := Lib.hid (printed_any m (by omega) w ht)
    clear ht
    have hm1 : max (0 : Int) (m : Int) = (m : Int) := by omega
    have hm2 : IntKind.u64.wrap (m : Int) = (m : Int) := by rw [IntKind.wrap_u64]; omega
    generalize prn m = s at *
    go_enter Tryd.func14, Tryd.ntmps14
    go_wp2_with fail
    all_goals first
      | omega
      | (refine hc.out.mono ?_
         rintro e w' ⟨rfl, hb⟩
         go_wp2
         go_ret
         exact ⟨rfl, hb⟩)
  · have e0 : n.toNat = 0 := by omega
    rw [e0]
    have hc := Lib.hid (printed_any 0 (by omega) w ht)
    clear ht e0
    have hm1 : max (0 : Int) n = 0 := by omega
    generalize prn 0 = s at *
    go_enter Tryd.func14, Tryd.ntmps14
    go_wp2_with fail
    all_goals first
      | omega
      | (refine hc.out.mono ?_
         rintro e w' ⟨rfl, hb⟩
         go_wp2
         go_ret
         exact ⟨rfl, hb⟩)
set_option maxRecDepth 20000 in
theorem vcode_any (c : Int) (hn : c < 9223372036854775808) (w : World) (ht : Tab w) : Calls Tryd.prog 12 #[.int .i64 c] w fun e w' => e = .returned (.string (cods c)) ∧ Below w.heap.size w w' := by
  have hc := Lib.hid (number_any c hn w ht)
  clear ht
  by_cases h0 : c = 0
  · subst h0
    rw [show cods 0 = ⟨#[111, 107]⟩ from rfl]
    go_enter Tryd.func12, Tryd.ntmps12
    go_wp2
    go_ret
    exact ⟨rfl, Below.refl _ _⟩
  · have b0 : (c == 0) = false := by simp [h0]
    by_cases h1 : c < 0
    · rw [show cods c = ⟨#[63]⟩ by unfold cods; rw [if_neg h0, if_pos h1]]
      clear h0
      go_enter Tryd.func12, Tryd.ntmps12
      go_wp2
      go_ret
      exact ⟨rfl, Below.refl _ _⟩
    · rw [show cods c = (⟨#[101, 114, 114, 111, 114, 32]⟩ : ByteArray) ++ prn c.toNat by unfold cods; rw [if_neg h0, if_neg h1]]
      have hs := prn_size (u := c.toNat) (by omega)
      generalize prn c.toNat = s at *
      clear h0
      go_enter Tryd.func12, Tryd.ntmps12
      go_wp2_with fail
      refine hc.out.mono ?_
      rintro e w' ⟨rfl, hb⟩
      go_wp2
      go_ret
      exact ⟨rfl, hb⟩
set_option maxRecDepth 20000 in
theorem lcode_any (c : Int) (hn : c < 9223372036854775808) (w : World) (ht : Tab w) : Calls Tryd.prog 8 #[.int .i64 c] w fun e w' => e = .returned (.string (cods c)) ∧ Below w.heap.size w w' := by
  by_cases h0 : c = 0
  · subst h0
    rw [show cods 0 = ⟨#[111, 107]⟩ from rfl]
    go_enter Tryd.func8, Tryd.ntmps8
    go_wp2
    go_ret
    exact ⟨rfl, Below.refl _ _⟩
  · have b0 : (c == 0) = false := by simp [h0]
    by_cases h1 : c < 0
    · rw [show cods c = ⟨#[63]⟩ by unfold cods; rw [if_neg h0, if_pos h1]]
      clear h0
      go_enter Tryd.func8, Tryd.ntmps8
      go_wp2
      go_ret
      exact ⟨rfl, Below.refl _ _⟩
    · rw [show cods c = (⟨#[101, 114, 114, 111, 114, 32]⟩ : ByteArray) ++ prn c.toNat by unfold cods; rw [if_neg h0, if_neg h1]]
      obtain ⟨m, rfl⟩ := Int.eq_ofNat_of_zero_le (show 0 ≤ c by omega)
      rw [Int.toNat_natCast]
      have hc := Lib.hid (printed_any m (by omega) w ht)
      have hs := prn_size (u := m) (by omega)
      clear ht
      have hm2 : IntKind.u64.wrap (m : Int) = (m : Int) := by rw [IntKind.wrap_u64]; omega
      generalize prn m = s at *
      clear h0
      go_enter Tryd.func8, Tryd.ntmps8
      go_wp2_with fail
      refine hc.out.mono ?_
      rintro e w' ⟨rfl, hb⟩
      go_wp2
      go_ret
      exact ⟨rfl, hb⟩
end Go.Proofs.YtmnnfecipkdgfaaDoor
