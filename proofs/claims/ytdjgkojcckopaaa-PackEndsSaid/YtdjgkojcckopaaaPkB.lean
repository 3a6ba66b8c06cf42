/-
  The writer of bytes: numbers; bytes behind their number.
-/
import Derived.Test.YtdjgkojcckopaaaPkA
namespace Go.Proofs.Ytdjgkojcckopaaa
open Go.RowKit Flow
set_option linter.unusedVariables false
set_option linter.unusedSimpArgs false

/-- A number's bytes, the lowest first. -/
def ubytes (n : Int) (k : Nat) : List Int := (List.range k).map (fun i => n / 2 ^ (8 * i) % 256)
theorem ubytes_len (n : Int) (k : Nat) : (ubytes n k).length = k := by simp [ubytes]
theorem ubytes_succ (n : Int) (k : Nat) : ubytes n (k + 1) = ubytes n k ++ [n / 2 ^ (8 * k) % 256] := by
  unfold ubytes
  rw [List.range_succ, List.map_append]; rfl
theorem sized_nat (k : Nat) (hk : k ≤ 8) (w : World) : Calls Try.prog 40 #[.int .i64 (k : Int)] w fun e w' => e = .returned (.int .i64 (k : Int)) ∧ Below w.heap.size w w' := by
  have h1 : max (0 : Int) (k : Int) = (k : Int) := by omega
  have h2 : min (k : Int) 8 = (k : Int) := by omega
  rcases Nat.eq_zero_or_pos k with rfl | hk0
  · go_enter Try.func40, Try.ntmps40
    go_wp2
    all_goals go_ret
    all_goals exact ⟨rfl, Below.refl _ _⟩
  · have h3 : (0 : Int) < (k : Int) := by omega
    have h4 : (k : Int) ≤ 8 := by omega
    go_enter Try.func40, Try.ntmps40
    go_wp2
    all_goals go_ret
    all_goals exact ⟨rfl, Below.refl _ _⟩
/-- The size that is meant by a number. -/
def SizeIs (s : Int) (k : Nat) : Prop := (k : Int) = min (max 0 s) 8
theorem SizeIs.le {s : Int} {k : Nat} (h : SizeIs s k) : k ≤ 8 := by unfold SizeIs at h; omega
theorem SizeIs.nat {k : Nat} (h : k ≤ 8) : SizeIs (k : Int) k := by unfold SizeIs; omega
theorem sized_gen (s : Int) (k : Nat) (h : SizeIs s k) (w : World) : Calls Try.prog 40 #[.int .i64 s] w fun e w' => e = .returned (.int .i64 (k : Int)) ∧ Below w.heap.size w w' := by
  unfold SizeIs at h
  by_cases h0 : s ≤ 0
  · obtain rfl : k = 0 := by omega
    have e1 : max (0 : Int) s = 0 := by omega
    have e2 : min (0 : Int) 8 = 0 := by omega
    clear h
    go_enter Try.func40, Try.ntmps40
    go_wp2
    all_goals go_ret
    all_goals exact ⟨rfl, Below.refl _ _⟩
  · obtain ⟨n, rfl⟩ := Int.eq_ofNat_of_zero_le (show 0 ≤ s by omega)
    by_cases h8 : n ≤ 8
    · obtain rfl : k = n := by omega
      exact sized_nat k h8 w
    · obtain rfl : k = 8 := by omega
      have e1 : max (0 : Int) (n : Int) = (n : Int) := by omega
      have e2 : min (n : Int) 8 = 8 := by omega
      have e3 : (0 : Int) < (n : Int) := by omega
      have e4 : (8 : Int) < (n : Int) := by omega
      clear h
      go_enter Try.func40, Try.ntmps40
      go_wp2
      all_goals go_ret
      all_goals exact ⟨rfl, Below.refl _ _⟩
theorem left_u {n L : Nat} (h : n < L) : L - (intOf (.int .i64 ((n : Int) + 1))).toNat < L - (intOf (.int .i64 (n : Int))).toNat := by
  show L - ((n : Int) + 1).toNat < L - ((n : Int)).toNat
  omega
theorem uint_gen (p : Nat) (xs : List Int) (n : Int) (hn : 0 ≤ n ∧ n < 18446744073709551616) (s : Int) (k : Nat) (hsk : SizeIs s k) (hlen : xs.length + k ≤ 1073741824) (w : World) (hW : Wr w p xs) :
    Calls Try.prog 22 #[.pointer (some ⟨p, 0, none⟩), .int .u64 n, .int .i64 s] w fun e w' => e = .returned (.tuple #[]) ∧ Wr w' p (xs ++ ubytes n k) ∧ Step p w w' := by
  have hk := hsk.le
  have hs := sized_gen s k hsk
  clear hsk
  replace hs := Lib.hid hs
  have hp := hW.lt
  go_enter Try.func22, Try.ntmps22
  go_wp2_with fail
  refine call_then (hs.out _) ?_
  intro w2 hb
  replace hW := hW.up hb
  have hS := Step.of_below hp hb
  clear hb
  go_wp2_with fail
  go_loopw [9] (fun i wr => ∃ j : Nat, j ≤ k ∧ i = .int .i64 (j : Int) ∧ Step p w wr ∧ Wr wr p (xs ++ ubytes n j)) (fun i _ => k - (intOf i).toNat)
  case atStart => exact ⟨0, by omega, rfl, hS, by simpa [ubytes] using hW⟩
  case round =>
    clear hS hW
    obtain ⟨j, hj, rfl, hS, hW⟩ := hrel
    by_cases hjk : j < k
    · have j0 : (0 : Int) ≤ (j : Int) := by omega
      have j1 : (j : Int) < (k : Int) := by omega
      have j2 : (j : Int) < 8 := by omega
      have hbA := (Below.refl wr.heap.size wr).alloc (Nat.le_refl _) (.cells #[.int .u8 (n / 2 ^ (8 * j) % 256)] 5 (0, 0))
      have hR := raw_any p (xs ++ ubytes n j) [n / 2 ^ (8 * j) % 256] (some ⟨wr.heap.size, 0, none⟩) 1 (by rw [List.length_append, ubytes_len]; simp; omega) _ (hW.up hbA) ⟨rfl, (fun h => (by cases h)), fun ad ha i u hi => by
        cases ha
        rw [Addr.add_mid]
        match i with
        | 0 =>
          cases hi
          have h := alloc_at (w := wr) (k := wr.heap.size) (o := .cells #[.int .u8 (n / 2 ^ (8 * j) % 256)] 5 (0, 0)) rfl
          unfold World.cell?
          rw [h]; rfl
        | i + 1 => cases hi⟩
      have hSt := hS.trans (Step.of_below hW.lt hbA)
      have hus := ubytes_succ n j
      replace hR := Lib.hid hR
      replace hSt := Lib.hid hSt
      replace hus := Lib.hid hus
      clear hS hW hbA
      go_wp2_with fail
      refine hR.out.mono ?_
      rintro e w3 ⟨rfl, hW3, hS3⟩
      go_wp2
      exact ⟨⟨j + 1, by omega, by go_num, hSt.out.trans hS3, by rw [hus.out, ← List.append_assoc]; exact hW3⟩, left_u (by assumption)⟩
    · obtain rfl : j = k := by omega
      go_wp2
      go_end0
      exact ⟨rfl, hW, hS⟩
theorem uint_any (p : Nat) (xs : List Int) (n : Int) (hn : 0 ≤ n ∧ n < 18446744073709551616) (k : Nat) (hk : k ≤ 8) (hlen : xs.length + k ≤ 1073741824) (w : World) (hW : Wr w p xs) :
    Calls Try.prog 22 #[.pointer (some ⟨p, 0, none⟩), .int .u64 n, .int .i64 (k : Int)] w fun e w' => e = .returned (.tuple #[]) ∧ Wr w' p (xs ++ ubytes n k) ∧ Step p w w' :=
  uint_gen p xs n hn k k (SizeIs.nat hk) hlen w hW
theorem long_any (p : Nat) (xs ys : List Int) (A : Option Addr) (c : Nat) (hlen : xs.length + 4 + ys.length ≤ 1073741824) (w : World) (hW : Wr w p xs) (hN : News w A ys.length c 1 (ys.map (Value.int .u8))) (hA : ∀ ad, A = some ad → Safe w p ad.block) :
    Calls Try.prog 19 #[.pointer (some ⟨p, 0, none⟩), .slice A ys.length c] w fun e w' => e = .returned (.tuple #[]) ∧ Wr w' p (xs ++ ubytes (ys.length : Int) 4 ++ ys) ∧ Step p w w' := by
  have hU := uint_any p xs (ys.length : Int) (by omega) 4 (by decide) (by omega) w hW
  have i0 : (0 : Int) ≤ (ys.length : Int) := by omega
  have i1 : (ys.length : Int) ≤ 1073741824 := by omega
  replace hU := Lib.hid hU
  replace hN := Lib.hid hN
  replace hA := Lib.hid hA
  go_enter Try.func19, Try.ntmps19
  go_wp2_with fail
  refine hU.out.mono ?_
  rintro e w2 ⟨rfl, hW2, hS2⟩
  have hR := raw_any p (xs ++ ubytes (ys.length : Int) 4) ys A c (by rw [List.length_append, ubytes_len]; omega) w2 hW2 (Go.Proofs.Ytdjgkojcckopaaa.News.step hN.out hS2 hA.out)
  replace hR := Lib.hid hR
  clear hU
  go_wp2_with fail
  refine hR.out.mono ?_
  rintro e w3 ⟨rfl, hW3, hS3⟩
  go_wp2
  go_end0
  exact ⟨rfl, hW3, hS2.trans hS3⟩
end Go.Proofs.Ytdjgkojcckopaaa
