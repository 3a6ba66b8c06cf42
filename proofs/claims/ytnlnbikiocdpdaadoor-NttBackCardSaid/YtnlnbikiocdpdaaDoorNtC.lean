/-
  Lengths that are powers of two: the program's and the law's.
-/
import Derived.Test.YtnlnbikiocdpdaaDoorNtB
namespace Go.Proofs.YtnlnbikiocdpdaaDoor
open Go.RowKit F Flow
set_option linter.unusedVariables false
set_option linter.unusedSimpArgs false

theorem nlog_0 (w : World) (h : Tabs w) : Calls Tryd.prog 17 #[.int .i64 1] w fun e w' => e = .returned (.tuple #[.int .i64 0, .bool true]) ∧ Below w.heap.size w w' := by
  have ht := Lib.hid (tz_0 w h)
  have ha : bits .and .i64 1 (1 - 1) = 0 := by decide +kernel
  have ha2 : bits .and .i64 1 0 = 0 := by decide +kernel
  go_enter Tryd.func17, Tryd.ntmps17
  go_wp2_with fail
  refine call_then ht.out ?_
  intro w1 hb
  go_wp2
  go_ret2
  exact ⟨rfl, hb⟩
theorem nlog_1 (w : World) (h : Tabs w) : Calls Tryd.prog 17 #[.int .i64 2] w fun e w' => e = .returned (.tuple #[.int .i64 1, .bool true]) ∧ Below w.heap.size w w' := by
  have ht := Lib.hid (tz_1 w h)
  have ha : bits .and .i64 2 (2 - 1) = 0 := by decide +kernel
  have ha2 : bits .and .i64 2 1 = 0 := by decide +kernel
  go_enter Tryd.func17, Tryd.ntmps17
  go_wp2_with fail
  refine call_then ht.out ?_
  intro w1 hb
  go_wp2
  go_ret2
  exact ⟨rfl, hb⟩
theorem nlog_2 (w : World) (h : Tabs w) : Calls Tryd.prog 17 #[.int .i64 4] w fun e w' => e = .returned (.tuple #[.int .i64 2, .bool true]) ∧ Below w.heap.size w w' := by
  have ht := Lib.hid (tz_2 w h)
  have ha : bits .and .i64 4 (4 - 1) = 0 := by decide +kernel
  have ha2 : bits .and .i64 4 3 = 0 := by decide +kernel
  go_enter Tryd.func17, Tryd.ntmps17
  go_wp2_with fail
  refine call_then ht.out ?_
  intro w1 hb
  go_wp2
  go_ret2
  exact ⟨rfl, hb⟩
theorem nlog_3 (w : World) (h : Tabs w) : Calls Tryd.prog 17 #[.int .i64 8] w fun e w' => e = .returned (.tuple #[.int .i64 3, .bool true]) ∧ Below w.heap.size w w' := by
  have ht := Lib.hid (tz_3 w h)
  have ha : bits .and .i64 8 (8 - 1) = 0 := by decide +kernel
  have ha2 : bits .and .i64 8 7 = 0 := by decide +kernel
  go_enter Tryd.func17, Tryd.ntmps17
  go_wp2_with fail
  refine call_then ht.out ?_
  intro w1 hb
  go_wp2
  go_ret2
  exact ⟨rfl, hb⟩
theorem nlog_4 (w : World) (h : Tabs w) : Calls Tryd.prog 17 #[.int .i64 16] w fun e w' => e = .returned (.tuple #[.int .i64 4, .bool true]) ∧ Below w.heap.size w w' := by
  have ht := Lib.hid (tz_4 w h)
  have ha : bits .and .i64 16 (16 - 1) = 0 := by decide +kernel
  have ha2 : bits .and .i64 16 15 = 0 := by decide +kernel
  go_enter Tryd.func17, Tryd.ntmps17
  go_wp2_with fail
  refine call_then ht.out ?_
  intro w1 hb
  go_wp2
  go_ret2
  exact ⟨rfl, hb⟩
theorem nlog_5 (w : World) (h : Tabs w) : Calls Tryd.prog 17 #[.int .i64 32] w fun e w' => e = .returned (.tuple #[.int .i64 5, .bool true]) ∧ Below w.heap.size w w' := by
  have ht := Lib.hid (tz_5 w h)
  have ha : bits .and .i64 32 (32 - 1) = 0 := by decide +kernel
  have ha2 : bits .and .i64 32 31 = 0 := by decide +kernel
  go_enter Tryd.func17, Tryd.ntmps17
  go_wp2_with fail
  refine call_then ht.out ?_
  intro w1 hb
  go_wp2
  go_ret2
  exact ⟨rfl, hb⟩
theorem nlog_6 (w : World) (h : Tabs w) : Calls Tryd.prog 17 #[.int .i64 64] w fun e w' => e = .returned (.tuple #[.int .i64 6, .bool true]) ∧ Below w.heap.size w w' := by
  have ht := Lib.hid (tz_6 w h)
  have ha : bits .and .i64 64 (64 - 1) = 0 := by decide +kernel
  have ha2 : bits .and .i64 64 63 = 0 := by decide +kernel
  go_enter Tryd.func17, Tryd.ntmps17
  go_wp2_with fail
  refine call_then ht.out ?_
  intro w1 hb
  go_wp2
  go_ret2
  exact ⟨rfl, hb⟩
theorem nlog_7 (w : World) (h : Tabs w) : Calls Tryd.prog 17 #[.int .i64 128] w fun e w' => e = .returned (.tuple #[.int .i64 7, .bool true]) ∧ Below w.heap.size w w' := by
  have ht := Lib.hid (tz_7 w h)
  have ha : bits .and .i64 128 (128 - 1) = 0 := by decide +kernel
  have ha2 : bits .and .i64 128 127 = 0 := by decide +kernel
  go_enter Tryd.func17, Tryd.ntmps17
  go_wp2_with fail
  refine call_then ht.out ?_
  intro w1 hb
  go_wp2
  go_ret2
  exact ⟨rfl, hb⟩
theorem nlog_8 (w : World) (h : Tabs w) : Calls Tryd.prog 17 #[.int .i64 256] w fun e w' => e = .returned (.tuple #[.int .i64 8, .bool true]) ∧ Below w.heap.size w w' := by
  have ht := Lib.hid (tz_8 w h)
  have ha : bits .and .i64 256 (256 - 1) = 0 := by decide +kernel
  have ha2 : bits .and .i64 256 255 = 0 := by decide +kernel
  go_enter Tryd.func17, Tryd.ntmps17
  go_wp2_with fail
  refine call_then ht.out ?_
  intro w1 hb
  go_wp2
  go_ret2
  exact ⟨rfl, hb⟩
theorem nlog_9 (w : World) (h : Tabs w) : Calls Tryd.prog 17 #[.int .i64 512] w fun e w' => e = .returned (.tuple #[.int .i64 9, .bool true]) ∧ Below w.heap.size w w' := by
  have ht := Lib.hid (tz_9 w h)
  have ha : bits .and .i64 512 (512 - 1) = 0 := by decide +kernel
  have ha2 : bits .and .i64 512 511 = 0 := by decide +kernel
  go_enter Tryd.func17, Tryd.ntmps17
  go_wp2_with fail
  refine call_then ht.out ?_
  intro w1 hb
  go_wp2
  go_ret2
  exact ⟨rfl, hb⟩
theorem nlog_10 (w : World) (h : Tabs w) : Calls Tryd.prog 17 #[.int .i64 1024] w fun e w' => e = .returned (.tuple #[.int .i64 10, .bool true]) ∧ Below w.heap.size w w' := by
  have ht := Lib.hid (tz_10 w h)
  have ha : bits .and .i64 1024 (1024 - 1) = 0 := by decide +kernel
  have ha2 : bits .and .i64 1024 1023 = 0 := by decide +kernel
  go_enter Tryd.func17, Tryd.ntmps17
  go_wp2_with fail
  refine call_then ht.out ?_
  intro w1 hb
  go_wp2
  go_ret2
  exact ⟨rfl, hb⟩
theorem nlog_pow (k : Nat) (hk : k ≤ 10) (w : World) (h : Tabs w) : Calls Tryd.prog 17 #[.int .i64 ((2 ^ k : Nat) : Int)] w fun e w' => e = .returned (.tuple #[.int .i64 (k : Int), .bool true]) ∧ Below w.heap.size w w' := by
  have : k = 0 ∨ k = 1 ∨ k = 2 ∨ k = 3 ∨ k = 4 ∨ k = 5 ∨ k = 6 ∨ k = 7 ∨ k = 8 ∨ k = 9 ∨ k = 10 := by omega
  rcases this with rfl | rfl | rfl | rfl | rfl | rfl | rfl | rfl | rfl | rfl | rfl
  · exact nlog_0 w h
  · exact nlog_1 w h
  · exact nlog_2 w h
  · exact nlog_3 w h
  · exact nlog_4 w h
  · exact nlog_5 w h
  · exact nlog_6 w h
  · exact nlog_7 w h
  · exact nlog_8 w h
  · exact nlog_9 w h
  · exact nlog_10 w h
/-- A number is a power of two, or Log says that it isn't. -/
theorem nlog_none (n : Int) (hn : ∀ k, k ≤ 10 → ((2 ^ k : Nat) : Int) ≠ n) (w : World) : Calls Tryd.prog 17 #[.int .i64 n] w fun e w' => e = .returned (.tuple #[.int .i64 0, .bool false]) ∧ Below w.heap.size w w' := by
  by_cases h1 : n < 1
  · clear hn
    go_enter Tryd.func17, Tryd.ntmps17
    go_wp2
    go_ret2
    exact ⟨rfl, Below.refl _ _⟩
  · by_cases h2 : 1024 < n
    · clear hn
      go_enter Tryd.func17, Tryd.ntmps17
      go_wp2
      go_ret2
      exact ⟨rfl, Below.refl _ _⟩
    · obtain ⟨m, rfl⟩ := Int.eq_ofNat_of_zero_le (by omega : 0 ≤ n)
      have ha : bits .and .i64 (m : Int) ((m : Int) - 1) ≠ 0 := by
        rcases pow_all ⟨m, by omega⟩ (by show 1 ≤ m; omega) with ⟨k, hk⟩ | h
        · exact absurd (by have := hk; simp only at this; rw [this]) (hn k.val (by omega))
        · exact h
      have hb : (bits .and .i64 (m : Int) ((m : Int) - 1) != 0) = true := by simpa using ha
      have hc : decide (bits .and .i64 (m : Int) ((m : Int) - 1) = 0) = false := by simpa using ha
      have m1 : (1 : Int) ≤ (m : Int) := by omega
      have m2 : (m : Int) ≤ 1024 := by omega
      clear hn h1 h2 ha
      go_enter Tryd.func17, Tryd.ntmps17
      go_wp2
      go_ret2
      exact ⟨rfl, Below.refl _ _⟩
theorem two_le {j : Nat} (h : j ≤ 10) : 2 ^ j ≤ 1024 := Nat.pow_le_pow_right (by omega) h
theorem two_pos (j : Nat) : 1 ≤ 2 ^ j := Nat.one_le_two_pow
theorem two_inj {a b : Nat} (h : 2 ^ a = 2 ^ b) : a = b := (Nat.pow_right_inj (by omega : 1 < 2)).1 h
theorem llog_all (n : Int) (w : World) : Calls Tryd.prog 11 #[.int .i64 n] w fun e w' => ((∃ k : Nat, k ≤ 10 ∧ ((2 ^ k : Nat) : Int) = n ∧ e = .returned (.int .i64 (k : Int))) ∨ ((∀ k : Nat, k ≤ 10 → ((2 ^ k : Nat) : Int) ≠ n) ∧ e = .returned (.int .i64 (-1)))) ∧ Below w.heap.size w w' := by
  go_enter Tryd.func11, Tryd.ntmps11
  go_wp2
  go_loopw [3, 4] (fun i x wr => ∃ j X : Nat, Hid (X = 2 ^ j) ∧ j ≤ 11 ∧ X ≤ 2048 ∧ i = .int .i64 (j : Int) ∧ x = .int .i64 (X : Int) ∧ Hid (∀ t, t < j → ((2 ^ t : Nat) : Int) ≠ n) ∧ Below w.heap.size w wr) (fun i _ _ => 12 - (intOf i).toNat)
  case atStart => exact ⟨0, 1, Lib.hid rfl, by omega, by omega, rfl, rfl, Lib.hid (fun t ht => absurd ht (Nat.not_lt_zero _)), Below.refl _ _⟩
  case round =>
    obtain ⟨j, X, hX, hj, hX2, rfl, rfl, hno, hb⟩ := hrel
    by_cases hlt : j ≤ 10
    · have x1 : (X : Int) ≤ 1024 := by have := two_le hlt; have := hX.out; omega
      have x0 : (0 : Int) ≤ (X : Int) := by omega
      by_cases he : (X : Int) = n
      · have he2 : ((X : Int) == n) = true := by simpa using he
        clear he
        go_wp2
        go_ret
        exact ⟨.inl ⟨j, hlt, by rw [← hX.out]; simpa using he2, rfl⟩, hb⟩
      · have he2 : ((X : Int) == n) = false := by simpa using he
        have hno2 : Hid (∀ t, t < j + 1 → ((2 ^ t : Nat) : Int) ≠ n) := Lib.hid (fun t ht => by
          by_cases e : t = j
          · subst e; rw [← hX.out]; exact he
          · exact hno.out t (by omega))
        clear he
        go_wp2
        exact ⟨⟨j + 1, X * 2, Lib.hid (by have := hX.out; rw [Nat.pow_succ]; omega), by omega, by omega, by go_num, by go_num, hno2, hb⟩, by simp [intOf]; omega⟩
    · obtain rfl : j = 11 := by omega
      have x1 : ¬ ((X : Int) ≤ 1024) := by have := hX.out; omega
      go_wp2
      go_ret
      exact ⟨.inr ⟨fun k hk => hno.out k (by omega), rfl⟩, hb⟩
/-- The next power of two, 1024 at most. -/
def NextIs (n : Int) (j : Nat) : Prop := j ≤ 10 ∧ (∀ t, t < j → ((2 ^ t : Nat) : Int) < n) ∧ (n ≤ ((2 ^ j : Nat) : Int) ∨ j = 10)
theorem next_uniq {n : Int} {a b : Nat} (ha : NextIs n a) (hb : NextIs n b) : a = b := by
  rcases Nat.lt_trichotomy a b with h | h | h
  · have := hb.2.1 a h
    rcases ha.2.2 with h2 | h2
    · omega
    · have := hb.1; omega
  · exact h
  · have := ha.2.1 b h
    rcases hb.2.2 with h2 | h2
    · omega
    · have := ha.1; omega
def NxOut (n : Int) (w : World) (e : Ending) (w' : World) : Prop := ∃ j X : Nat, X = 2 ^ j ∧ NextIs n j ∧ e = .returned (.int .i64 (X : Int)) ∧ Below w.heap.size w w'
theorem nnext_any (n : Int) (w : World) : Calls Tryd.prog 18 #[.int .i64 n] w (NxOut n w) := by
  go_enter Tryd.func18, Tryd.ntmps18
  go_wp2
  go_loopw [3] (fun x wr => ∃ j X : Nat, Hid (X = 2 ^ j) ∧ j ≤ 10 ∧ X ≤ 1024 ∧ 1 ≤ X ∧ x = .int .i64 (X : Int) ∧ Hid (∀ t, t < j → ((2 ^ t : Nat) : Int) < n) ∧ Below w.heap.size w wr) (fun x _ => 1025 - (intOf x).toNat)
  case atStart => exact ⟨0, 1, Lib.hid rfl, by omega, by omega, by omega, rfl, Lib.hid (fun t ht => absurd ht (Nat.not_lt_zero _)), Below.refl _ _⟩
  case round =>
    obtain ⟨j, X, hX, hj, hX2, hX1, rfl, hno, hb⟩ := hrel
    by_cases h1 : (X : Int) < n
    · by_cases h2 : X < 1024
      · have x2 : (X : Int) < 1024 := by omega
        have hj2 : j < 10 := by
          rcases Nat.lt_or_ge j 10 with h | h
          · exact h
          · obtain rfl : j = 10 := by omega
            have := hX.out
            omega
        have hno2 : Hid (∀ t, t < j + 1 → ((2 ^ t : Nat) : Int) < n) := Lib.hid (fun t ht => by
          by_cases e : t = j
          · subst e; rw [← hX.out]; exact h1
          · exact hno.out t (by omega))
        go_wp2
        exact ⟨⟨j + 1, X * 2, Lib.hid (by have := hX.out; rw [Nat.pow_succ]; omega), by omega, by have := two_le (j := j + 1) (by omega); have := hX.out; rw [Nat.pow_succ] at *; omega, by omega, by go_num, hno2, hb⟩, by simp [intOf]; omega⟩
      · obtain rfl : X = 1024 := by omega
        have hj10 : j = 10 := two_inj (b := 10) (by have := hX.out; omega)
        go_wp2
        go_ret
        exact ⟨j, 1024, by rw [hj10], ⟨hj, hno.out, .inr hj10⟩, rfl, hb⟩
    · have x2 : ¬ ((X : Int) < n) := h1
      go_wp2
      go_ret
      exact ⟨j, X, hX.out, ⟨hj, hno.out, .inl (by rw [← hX.out]; omega)⟩, rfl, hb⟩
end Go.Proofs.YtnlnbikiocdpdaaDoor
