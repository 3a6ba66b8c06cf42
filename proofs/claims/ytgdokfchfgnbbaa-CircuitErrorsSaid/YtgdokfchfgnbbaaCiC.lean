/-
  The document's circuits: how many elements all has.
-/
import Derived.Test.YtgdokfchfgnbbaaCiA
namespace Go.Proofs.Ytgdokfchfgnbbaa
open Go.RowKit Flow
set_option linter.unusedVariables false
set_option linter.unusedSimpArgs false

theorem used_any (n most : Int) (is : Bool) (w : World) : Calls Try.prog 58 #[.int .i64 n, .int .i64 most, .bool is] w fun e w' => e = .returned (.bool (inside n is most)) ∧ Below w.heap.size w w' := by
  cases is with
  | false =>
    go_enter Try.func58, Try.ntmps58
    go_wp2
    go_ret
    exact ⟨rfl, Below.refl _ _⟩
  | true =>
    by_cases h : 1 ≤ n
    · have b1 : decide (n ≥ 1) = true := by simpa using h
      go_enter Try.func58, Try.ntmps58
      go_wp2
      go_ret
      exact ⟨by simp [inside, h], Below.refl _ _⟩
    · have b1 : decide (n ≥ 1) = false := by simpa using h
      go_enter Try.func58, Try.ntmps58
      go_wp2
      go_ret
      exact ⟨by simp [inside]; omega, Below.refl _ _⟩
theorem rwb_any (k f b l W c : Int) (h0 : 0 ≤ W) (h1 : W ≤ 64) (w : World) : Calls Try.prog 62 #[.agg #[.int .i64 k, .int .i64 f, .int .i64 b, .int .i64 l, .int .i64 W, .int .i64 c]] w fun e w' => e = .returned (.int .i64 (Lib.bitLen W.toNat)) ∧ Below w.heap.size w w' := by
  obtain ⟨nW, rfl⟩ := Int.eq_ofNat_of_zero_le h0
  have hn : nW ≤ 64 := by omega
  have hB := bitLen_le nW (by omega)
  rw [Int.toNat_natCast]
  obtain ⟨T, hT⟩ : ∃ T, Lib.bitLen nW = T := ⟨_, rfl⟩
  rw [hT] at hB ⊢
  replace hT := Lib.hid hT
  go_enter Try.func62, Try.ntmps62
  go_upto_region 1 with (fail)
  refine name_wp (fun w1 => Below w.heap.size w w1 ∧ w1.heap[w.heap.size]? = some (.cells #[.int .i64 k, .int .i64 f, .int .i64 b, .int .i64 l, .int .i64 (nW : Int), .int .i64 c] 32 (0, 0))) ⟨(Below.refl _ _).alloc (Nat.le_refl _) _, alloc_at rfl⟩ ?_
  rintro w1 ⟨hb, k0⟩
  obtain ⟨c0, c1, c2, c3, c4, c5⟩ := blk6 k0
  go_wp2
  clear c0 c1 c2 c3 c4 c5 k0
  go_loopw [3, 4] (fun i v wr => ∃ n x : Nat, i = .int .i64 (n : Int) ∧ v = .int .i64 (x : Int) ∧ Hid (n + Lib.bitLen x = T) ∧ x ≤ 64 ∧ Below w.heap.size w wr) (fun _ v _ => (intOf v).toNat)
  case atStart => exact ⟨0, nW, rfl, rfl, Lib.hid (by rw [hT.out]; omega), hn, hb⟩
  case round =>
    clear hb
    obtain ⟨n, x, rfl, rfl, hnx, hx, hb⟩ := hrel
    by_cases hlt : 0 < x
    · have hh := Lib.bitLen_half x (by omega) (by omega)
      have hn1 : n + 1 + Lib.bitLen (x / 2) = T := by have := hnx.out; omega
      have b1 : decide ((x : Int) > 0) = true := by rw [decide_eq_true_eq]; omega
      have zn : n ≤ 64 := by have := hnx.out; omega
      obtain ⟨y, hy⟩ : ∃ y, x / 2 = y := ⟨_, rfl⟩
      have zy : (x : Int).tdiv 2 = (y : Int) := by rw [← hy]; rfl
      have zy2 : (x : Int) / 2 = (y : Int) := by omega
      have hyx : y < x := by omega
      rw [hy] at hn1
      replace hn1 := Lib.hid hn1
      replace hy := Lib.hid hy
      clear hh
      go_wp2
      exact ⟨⟨n + 1, y, by go_num, rfl, hn1, by omega, hb⟩, by simp [intOf]; omega⟩
    · obtain rfl : x = 0 := by omega
      have b1 : decide (((0 : Nat) : Int) > 0) = false := by simp
      have hnT : n = T := by have := hnx.out; simpa [Lib.bitLen, Lib.bitLenAux] using this
      subst hnT
      go_wp2
      go_ret
      exact ⟨rfl, hb⟩
end Go.Proofs.Ytgdokfchfgnbbaa
