/-
  The reader of bytes: what is too short; numbers.
-/
import Derived.Test.YtdjgkojcckopaaaRdB
import Derived.Test.YtdjgkojcckopaaaLe
import Derived.Laws.Bits64b
namespace Go.Proofs.Ytdjgkojcckopaaa
open Go.RowKit Flow
set_option linter.unusedVariables false
set_option linter.unusedSimpArgs false

theorem Lf.slice {w : World} {p : Nat} {v : Value} {xs : List Int} (h : Lf w p v xs) : ∃ A c, v = .slice A xs.length c := h.tx.slice
/-- A reading that can't go on. -/
def Failed (w : World) (o r : Nat) (c : Int) (e : Ending) (w' : World) : Prop := e = .panicked [failing o] ∧ But o w w' ∧ Rd w' o r (.slice none 0 0) true c
set_option maxHeartbeats 2000000 in
theorem rraw_short (o r : Nat) (A : Option Addr) (n c : Nat) (m : Int) (hm : m < 0 ∨ (n : Int) < m) (w : World) (h : Rd w o r (.slice A n c) false 0) :
    Calls Try.prog 16 #[.pointer (some ⟨r, 0, none⟩), .int .i64 m] w (Failed w o r 3) := by
  have hO := Lib.hid (open_any o r _ false 0 w h)
  have hF := Lib.hid (fail_any o r _ 0 3 (by decide) w h)
  obtain ⟨c0, c1, c2, c3, f0, f1, f2⟩ := h.cells
  by_cases h0 : m < 0
  · have b0 : decide (m < (0 : Int)) = true := by rw [decide_eq_true_eq]; exact h0
    clear hm h
    go_enter Try.func16, Try.ntmps16
    go_wp2_with fail
    refine hO.out.mono ?_
    rintro e w2 ⟨rfl, rfl⟩
    go_wp2_with fail
    refine hF.out.mono ?_
    rintro e w3 ⟨rfl, hb3, hR3⟩
    go_wp2
    exact ⟨rfl, rfl, hb3, hR3⟩
  · have b0 : decide (m < (0 : Int)) = false := by rw [decide_eq_false_iff_not]; exact h0
    have b1 : decide ((n : Int) < m) = true := by rw [decide_eq_true_eq]; omega
    clear hm h
    go_enter Try.func16, Try.ntmps16
    go_wp2_with fail
    refine hO.out.mono ?_
    rintro e w2 ⟨rfl, rfl⟩
    go_wp2_with fail
    refine hF.out.mono ?_
    rintro e w3 ⟨rfl, hb3, hR3⟩
    go_wp2
    exact ⟨rfl, rfl, hb3, hR3⟩
theorem Fr.at {w : World} {B : Nat} {v : Value} {xs : List Int} {k : Nat} (h : Fr B w v xs) (hk : xs.length = k) : ∃ A c, v = .slice A k c ∧ ∀ i, i < k → ∃ b o, A = some ⟨b, o, none⟩ ∧ w.cell? ⟨b, o + i, none⟩ = some (.int .u8 (xs.getD i 0)) := by
  subst hk
  rcases h with ⟨rfl, rfl⟩ | ⟨b, o, c, rfl, h1, h2, h3⟩
  · exact ⟨_, _, rfl, fun i hi => absurd hi (Nat.not_lt_zero _)⟩
  · exact ⟨_, _, rfl, fun i hi => ⟨b, o, rfl, (h3 i hi).1⟩⟩
theorem loVal_step {xs : List Int} {j : Nat} (h : j < xs.length) : F.loVal (xs.take (j + 1)) = F.loVal (xs.take j) + 256 ^ j * (xs[j]?.getD 0) := by
  have e : (xs.take j).length = j := by simp; omega
  rw [List.take_succ_eq_append_getElem h, F.loVal_append, e]
  simp [F.loVal, h]
theorem or_add (a x : Int) (j : Nat) (h0 : 0 ≤ a) (h1 : a < 256 ^ j) (x0 : 0 ≤ x) (x1 : x < 256) (hj : j < 8) : bits BinOp.or IntKind.u64 a (IntKind.u64.wrap (IntKind.u64.wrap x * 2 ^ (8 * j))) = a + 256 ^ j * x := by
  have e1 : (256 : Int) ^ j = 2 ^ (8 * j) := by rw [Int.pow_mul]; rfl
  have hle : (2 : Nat) ^ (8 * j) ≤ 2 ^ 56 := Nat.pow_le_pow_right (by decide) (by omega)
  obtain ⟨n, rfl⟩ := Int.eq_ofNat_of_zero_le h0
  obtain ⟨m, rfl⟩ := Int.eq_ofNat_of_zero_le x0
  rw [e1] at h1 ⊢
  have e2 : ((2 : Int) ^ (8 * j)) = ((2 ^ (8 * j) : Nat) : Int) := by simp
  rw [e2] at h1 ⊢
  generalize hp : 2 ^ (8 * j) = p at *
  have hn : n < p := by omega
  have hm : m < 256 := by omega
  have w1 : IntKind.u64.wrap (m : Int) = (m : Int) := by simp only [IntKind.wrap_u64]; omega
  have hmp : m * p ≤ 255 * 2 ^ 56 := Nat.mul_le_mul (by omega) hle
  have w2 : IntKind.u64.wrap ((m : Int) * (p : Int)) = ((m * p : Nat) : Int) := by
    rw [IntKind.wrap_u64, show ((m : Int) * (p : Int)) = ((m * p : Nat) : Int) from by simp]
    omega
  rw [w1, w2, bits_or_u64_nat n (m * p) (by omega) (by omega)]
  have h3 : p * m + n = p * m ||| n := by rw [← hp]; exact Nat.two_pow_add_eq_or_of_lt (by rw [hp]; exact hn) m
  have h4 : n ||| m * p = n + p * m := by rw [Nat.or_comm, Nat.mul_comm m p, ← h3, Nat.add_comm]
  rw [h4]
  simp
theorem or_step (xs : List Int) (hok : ∀ y, y ∈ xs → 0 ≤ y ∧ y < 256) (j : Nat) (h : j < xs.length) (hj : j < 8) :
    bits BinOp.or IntKind.u64 (F.loVal (xs.take j)) (IntKind.u64.wrap (IntKind.u64.wrap (xs[j]?.getD 0) * 2 ^ (8 * j))) = F.loVal (xs.take (j + 1)) := by
  have e : (xs.take j).length = j := by simp; omega
  have hb := F.loVal_bound (xs.take j) (fun y hy => hok y (List.mem_of_mem_take hy))
  rw [e] at hb
  have hx : 0 ≤ xs[j]?.getD 0 ∧ xs[j]?.getD 0 < 256 := by
    rw [List.getElem?_eq_getElem h]
    exact hok _ (List.getElem_mem h)
  rw [loVal_step h]
  exact or_add _ _ j hb.1 hb.2 hx.1 hx.2 hj
/-- A number was taken. -/
def TookU (w : World) (o r : Nat) (n : Int) (ys : List Int) (e : Ending) (w' : World) : Prop := ∃ v2, e = .returned (.int .u64 n) ∧ But o w w' ∧ Rd w' o r v2 false 0 ∧ Lf w' o v2 ys
set_option maxHeartbeats 2000000 in
theorem ruint_gen (o r : Nat) (v : Value) (ys : List Int) (hy : ∀ y, y ∈ ys → 0 ≤ y ∧ y < 256) (s : Int) (k : Nat) (hsk : SizeIs s k) (hk : k ≤ ys.length) (hl : ys.length ≤ 1073741824) (w : World) (h : Rd w o r v false 0) (hv : Lf w o v ys) :
    Calls Try.prog 26 #[.pointer (some ⟨r, 0, none⟩), .int .i64 s] w (TookU w o r (F.loVal (ys.take k)) (ys.drop k)) := by
  have hk8 := hsk.le
  have hS := Lib.hid (sized_gen s k hsk w)
  clear hsk
  go_enter Try.func26, Try.ntmps26
  go_wp2_with fail
  refine call_then hS.out ?_
  intro w2 hb2
  have h2 := h.up hb2
  have hv2 : Lf w2 o v ys := hv.but (But.of_below hb2)
  have hR := Lib.hid (rraw_ok o r v ys k hk hl w2 h2 hv2)
  have hbut := But.of_below (p := o) hb2
  clear hS hb2 h hv h2 hv2
  go_wp2_with fail
  refine hR.out.mono ?_
  rintro e w3 ⟨v1, v2, rfl, hb3, hR3, hL3, hF3⟩
  have hlen : (ys.take k).length = k := by simp; omega
  obtain ⟨A, c, rfl, hcell⟩ := hF3.at hlen
  have hok : ∀ y, y ∈ ys.take k → 0 ≤ y ∧ y < 256 := fun y h => hy y (List.mem_of_mem_take h)
  have hfin : But o w w3 := ⟨hb3.os.trans hbut.os, hb3.tape.trans hbut.tape, hb3.output.trans hbut.output, Nat.le_trans hbut.size hb3.size, fun q hq hne => (hb3.block q (Nat.lt_of_lt_of_le hq hbut.size) hne).trans (hbut.block q hq hne)⟩
  have hfin2 := Lib.hid (And.intro hfin (And.intro hR3 hL3))
  clear hbut hb3 hR3 hL3 hfin hR hF3 hy hl hk
  generalize hxs : ys.take k = xs at *
  replace hxs := Lib.hid hxs
  replace hlen := Lib.hid hlen
  replace hok := Lib.hid hok
  replace hcell := Lib.hid hcell
  have k0 : (0 : Int) ≤ (k : Int) := by omega
  go_wp2_with fail
  go_loop [5, 13] (fun n i => ∃ j : Nat, j ≤ k ∧ i = .int .i64 (j : Int) ∧ n = .int .u64 (F.loVal (xs.take j))) (fun _ i => k - (intOf i).toNat)
  case atStart => exact ⟨0, by omega, rfl, by simp [F.loVal]⟩
  case round =>
    obtain ⟨j, hj, rfl, rfl⟩ := hrel
    by_cases hlt : j < k
    · obtain ⟨b, off, rfl, hc⟩ := hcell.out j hlt
      have j0 : (0 : Int) ≤ (j : Int) := by omega
      have j1 : (j : Int) < (k : Int) := by omega
      have j2 : (j : Int) < 8 := by omega
      have hor := Lib.hid (or_step xs hok.out j (by rw [hlen.out]; exact hlt) (by omega))
      go_wp2
      exact ⟨⟨j + 1, by omega, by go_num, by rw [hor.out]⟩, left_u hlt⟩
    · obtain rfl : j = k := by omega
      go_wp2
      go_ret
      rw [List.take_of_length_le (by rw [hlen.out]; exact Nat.le_refl _)]
      exact ⟨v2, rfl, hfin2.out.1, hfin2.out.2.1, hfin2.out.2.2⟩
theorem ruint_ok (o r : Nat) (v : Value) (ys : List Int) (hy : ∀ y, y ∈ ys → 0 ≤ y ∧ y < 256) (k : Nat) (hk8 : k ≤ 8) (hk : k ≤ ys.length) (hl : ys.length ≤ 1073741824) (w : World) (h : Rd w o r v false 0) (hv : Lf w o v ys) :
    Calls Try.prog 26 #[.pointer (some ⟨r, 0, none⟩), .int .i64 (k : Int)] w (TookU w o r (F.loVal (ys.take k)) (ys.drop k)) :=
  ruint_gen o r v ys hy k k (SizeIs.nat hk8) hk hl w h hv
end Go.Proofs.Ytdjgkojcckopaaa
