/-
  What one adds at most; numbers added; bits.
-/
import Derived.Test.YtgdokfchfgnbbaaCjA
import Derived.Test.YtgdokfchfgnbbaaBE
namespace Go.Proofs.Ytgdokfchfgnbbaa
open Go.RowKit Flow F
set_option linter.unusedVariables false
set_option linter.unusedSimpArgs false

theorem pow_le32 {b : Nat} (h : b ≤ 32) : 2 ^ b ≤ 4294967296 := Nat.le_trans (Nat.pow_le_pow_right (by omega) h) (by decide)
theorem most_any (x : Ci) (h : x.Good) (w : World) : Calls Try.prog 31 #[cvl x] w fun e w' => e = .returned (.int .u64 (x.mostN : Int)) ∧ Below w.heap.size w w' := by
  obtain ⟨k, f, b, l, W, c⟩ := x
  have hR := Lib.hid (right_good h)
  have hbb := h.fits.b
  have hk : k = 1 ∨ k = 2 ∨ k = 3 ∨ k = 4 ∨ k = 5 := by have := h.fits.k1; have := h.fits.k5; simp only at *; omega
  unfold cvl at *
  by_cases h23 : k = 2 ∨ k = 3
  · have hb2 := hbb h23
    simp only at hb2
    obtain ⟨nb, rfl⟩ := Int.eq_ofNat_of_zero_le (show 0 ≤ b by omega)
    have e : (Ci.mk k f nb l W c).mostN = 2 ^ nb - 1 := by simp [Ci.mostN, h23]
    rw [e]
    have hp := pow_le32 (b := nb) (by omega)
    have hp1 := Nat.one_le_two_pow (n := nb)
    have hsh : ((1 : Int) * 2 ^ nb) = ((2 ^ nb : Nat) : Int) := by simp
    obtain ⟨X, hX⟩ : ∃ X, X = 2 ^ nb := ⟨_, rfl⟩
    rw [← hX] at hp hp1 hsh ⊢
    have hwr : IntKind.u64.wrap ((1 : Int) * 2 ^ nb) = (X : Int) := by rw [hsh, IntKind.wrap_u64]; omega
    have hwr2 : IntKind.u64.wrap ((2 : Int) ^ nb) = (X : Int) := by rw [← hwr]; simp
    have hwr3 : ((2 : Int) ^ nb) = (X : Int) := by rw [← hsh]; simp
    have hX1 : ((X - 1 : Nat) : Int) = (X : Int) - 1 := by omega
    rw [hX1]
    replace hX := Lib.hid hX
    clear hsh hX1 hk h e hbb
    rcases h23 with rfl | rfl
    · go_enter Try.func31, Try.ntmps31
      go_upto_region 1 with (fail)
      refine name_wp (fun w1 => Below w.heap.size w w1 ∧ w1.heap[w.heap.size]? = some (.cells #[.int .u8 2, .int .u8 f, .int .i64 (nb : Int), .int .i64 l, .int .i64 W, .int .i64 c] 25 (0, 0))) ⟨(Below.refl _ _).alloc (Nat.le_refl _) _, alloc_at rfl⟩ ?_
      rintro w1 ⟨hb, k0⟩
      obtain ⟨c0, c1, c2, c3, c4, c5⟩ := blk6 k0
      go_wp2_with fail
      refine call_then (hR.out _) ?_
      intro w2 hb2
      replace hb := below_next hb hb.size hb2
      replace k0 := keeps hb2 k0
      clear hb2 c0 c1 c2 c3 c4 c5
      obtain ⟨c0, c1, c2, c3, c4, c5⟩ := blk6 k0
      go_wp2
      go_ret
      exact ⟨rfl, hb⟩
    · go_enter Try.func31, Try.ntmps31
      go_upto_region 1 with (fail)
      refine name_wp (fun w1 => Below w.heap.size w w1 ∧ w1.heap[w.heap.size]? = some (.cells #[.int .u8 3, .int .u8 f, .int .i64 (nb : Int), .int .i64 l, .int .i64 W, .int .i64 c] 25 (0, 0))) ⟨(Below.refl _ _).alloc (Nat.le_refl _) _, alloc_at rfl⟩ ?_
      rintro w1 ⟨hb, k0⟩
      obtain ⟨c0, c1, c2, c3, c4, c5⟩ := blk6 k0
      go_wp2_with fail
      refine call_then (hR.out _) ?_
      intro w2 hb2
      replace hb := below_next hb hb.size hb2
      replace k0 := keeps hb2 k0
      clear hb2 c0 c1 c2 c3 c4 c5
      obtain ⟨c0, c1, c2, c3, c4, c5⟩ := blk6 k0
      go_wp2
      go_ret
      exact ⟨rfl, hb⟩
  · have e : (Ci.mk k f b l W c).mostN = 1 := by simp [Ci.mostN, h23]
    rw [e]
    have n2 : (k == 2) = false := by simp; omega
    have n3 : (k == 3) = false := by simp; omega
    have d2 : decide (k = 2) = false := by simp; omega
    have d3 : decide (k = 3) = false := by simp; omega
    clear hk h e hbb h23
    go_enter Try.func31, Try.ntmps31
    go_upto_region 1 with (fail)
    refine name_wp (fun w1 => Below w.heap.size w w1 ∧ w1.heap[w.heap.size]? = some (.cells #[.int .u8 k, .int .u8 f, .int .i64 b, .int .i64 l, .int .i64 W, .int .i64 c] 25 (0, 0))) ⟨(Below.refl _ _).alloc (Nat.le_refl _) _, alloc_at rfl⟩ ?_
    rintro w1 ⟨hb, k0⟩
    obtain ⟨c0, c1, c2, c3, c4, c5⟩ := blk6 k0
    go_wp2_with fail
    refine call_then (hR.out _) ?_
    intro w2 hb2
    replace hb := below_next hb hb.size hb2
    replace k0 := keeps hb2 k0
    clear hb2 c0 c1 c2 c3 c4 c5
    obtain ⟨c0, c1, c2, c3, c4, c5⟩ := blk6 k0
    go_wp2
    go_ret
    exact ⟨rfl, hb⟩
def Ci.measuredN (x : Ci) : Nat := if x.k = 4 then 1 else x.outN
theorem measured_any (x : Ci) (h : x.Good) : NumBy 65 (cvl x) x.measuredN := by
  intro w
  have hO := out_any x h
  unfold Ci.measuredN
  obtain ⟨k, f, b, l, W, c⟩ := x
  unfold cvl NumBy at *
  generalize (Ci.mk k f b l W c).outN = N at *
  replace hO := Lib.hid hO
  clear h
  by_cases h4 : k = 4
  · subst h4
    rw [if_pos rfl]
    go_enter Try.func65, Try.ntmps65
    go_upto_region 1 with (fail)
    refine name_wp (fun w1 => Below w.heap.size w w1 ∧ w1.heap[w.heap.size]? = some (.cells #[.int .u8 4, .int .u8 f, .int .i64 b, .int .i64 l, .int .i64 W, .int .i64 c] 25 (0, 0))) ⟨(Below.refl _ _).alloc (Nat.le_refl _) _, alloc_at rfl⟩ ?_
    rintro w1 ⟨hb, k0⟩
    obtain ⟨c0, c1, c2, c3, c4, c5⟩ := blk6 k0
    go_wp2
    go_ret
    exact ⟨rfl, hb⟩
  · rw [if_neg h4]
    have n4 : (k == 4) = false := by simpa using h4
    have d4 : decide (k = 4) = false := by simpa using h4
    clear h4
    go_enter Try.func65, Try.ntmps65
    go_upto_region 1 with (fail)
    refine name_wp (fun w1 => Below w.heap.size w w1 ∧ w1.heap[w.heap.size]? = some (.cells #[.int .u8 k, .int .u8 f, .int .i64 b, .int .i64 l, .int .i64 W, .int .i64 c] 25 (0, 0))) ⟨(Below.refl _ _).alloc (Nat.le_refl _) _, alloc_at rfl⟩ ?_
    rintro w1 ⟨hb, k0⟩
    obtain ⟨c0, c1, c2, c3, c4, c5⟩ := blk6 k0
    go_wp2_with fail
    refine call_then (hO.out _) ?_
    intro w2 hb2
    replace hb := below_next hb hb.size hb2
    replace k0 := keeps hb2 k0
    clear hb2 c0 c1 c2 c3 c4 c5
    obtain ⟨c0, c1, c2, c3, c4, c5⟩ := blk6 k0
    go_wp2
    go_ret
    exact ⟨rfl, hb⟩
/-- A sum of words. -/
def wsum : List Int → Int
  | l => l.foldl (fun s x => (s + x) % 18446744073709551616) 0
/-- A slice reads as words. -/
def WordsAt (w : World) (A : Option Addr) (zs : List Int) : Prop := ∀ k, k < zs.length → ∃ b o, A = some ⟨b, o, none⟩ ∧ w.cell? ⟨b, o + k, none⟩ = some (.int .u64 (zs.getD k 0))
def WordsOK (zs : List Int) : Prop := ∀ x, x ∈ zs → 0 ≤ x ∧ x < 18446744073709551616
theorem WordsOK.at_ {xs : List Int} (h : WordsOK xs) {k : Nat} (hk : k < xs.length) : 0 ≤ xs.getD k 0 ∧ xs.getD k 0 < 18446744073709551616 := by
  rw [List.getD_eq_getElem?_getD, List.getElem?_eq_getElem hk]
  exact h _ (List.getElem_mem hk)
theorem WordsAt.up {w w' : World} {A : Option Addr} {xs : List Int} (h : WordsAt w A xs) (hb : Below w.heap.size w w') : WordsAt w' A xs := fun k hk => by
  obtain ⟨b, o, e, hc⟩ := h k hk
  exact ⟨b, o, e, (hb.cell (World.block_lt_of_cell? _ _ hc)).trans hc⟩
theorem wsum_bound (l : List Int) : 0 ≤ wsum l ∧ wsum l < 18446744073709551616 := by
  rcases l.eq_nil_or_concat with rfl | ⟨l, x, rfl⟩
  · decide
  · unfold wsum
    rw [List.concat_eq_append, List.foldl_append]
    simp only [List.foldl_cons, List.foldl_nil]
    omega
theorem wsum_snoc (l : List Int) (x : Int) : wsum (l ++ [x]) = (wsum l + x) % 18446744073709551616 := by
  unfold wsum
  rw [List.foldl_append]
  rfl
theorem take_snocD {l : List Int} {k : Nat} (h : k < l.length) : l.take (k + 1) = l.take k ++ [l.getD k 0] := by
  rw [List.take_succ_eq_append_getElem h, List.getD_eq_getElem?_getD, List.getElem?_eq_getElem h]
  rfl
theorem added_any (zs : List Int) (A : Option Addr) (N c : Nat) (hN : zs.length = N) (hz : WordsOK zs) (hm : N ≤ maxLen) (w : World) (hA : WordsAt w A zs) : Calls Try.prog 70 #[.slice A N c] w fun e w' => e = .returned (.int .u64 (wsum zs)) ∧ Below w.heap.size w w' := by
  unfold maxLen at hm
  replace hA := Lib.hid hA
  go_enter Try.func70, Try.ntmps70
  go_wp2
  go_loopw [3, 8] (fun s i wr => ∃ k : Nat, k ≤ N ∧ i = .int .i64 (k : Int) ∧ s = .int .u64 (wsum (zs.take k)) ∧ Below w.heap.size w wr) (fun _ i _ => N - (intOf i).toNat)
  case atStart => exact ⟨0, Nat.zero_le _, rfl, rfl, Below.refl _ _⟩
  case round =>
    obtain ⟨k, hk, rfl, rfl, hb⟩ := hrel
    have hs := wsum_bound (zs.take k)
    by_cases hlt : k < N
    · have k1 : (k : Int) < (N : Int) := by omega
      have k0 : (0 : Int) ≤ (k : Int) := by omega
      obtain ⟨b, o, rfl, hc⟩ := hA.out k (by omega)
      have hc2 := (hb.cell (World.block_lt_of_cell? _ _ hc)).trans hc
      have hx := hz.at_ (k := k) (by omega)
      have hsn : Hid (wsum (zs.take (k + 1)) = IntKind.u64.wrap (wsum (zs.take k) + zs.getD k 0)) := Lib.hid (by rw [take_snocD (by omega), wsum_snoc, IntKind.wrap_u64])
      generalize zs.getD k 0 = z at *
      generalize wsum (zs.take k) = s at *
      clear hc
      replace hN := Lib.hid hN
      replace hz := Lib.hid hz
      go_wp2
      exact ⟨⟨k + 1, by omega, by go_num, by rw [hsn.out], hb⟩, by simp [intOf]; omega⟩
    · obtain rfl : N = k := by omega
      have k1 : ¬ (N : Int) < (N : Int) := by omega
      rw [List.take_of_length_le (by omega)] at *
      go_wp2
      go_ret
      exact ⟨rfl, hb⟩
end Go.Proofs.Ytgdokfchfgnbbaa
