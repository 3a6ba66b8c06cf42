/-
  What is measured as a vector, as the document says.
-/
import Derived.Test.YtgdokfchfgnbbaaCjV
import Derived.Test.YtgdokfchfgnbbaaCjK
import Derived.Test.YtgdokfchfgnbbaaCjP
namespace Go.Proofs.Ytgdokfchfgnbbaa
open Go.RowKit Flow F
set_option linter.unusedVariables false
set_option linter.unusedSimpArgs false

def REncOut (L : List Int) (w : World) (e : Ending) (w' : World) : Prop := ∃ A c, e = .returned (.tuple #[.slice A L.length c, .int .i64 0]) ∧ Below w.heap.size w w' ∧ WordsAt w' A L
def REncBad (C : Int) (w : World) (e : Ending) (w' : World) : Prop := e = .returned (.tuple #[.slice none 0 0, .int .i64 C]) ∧ Below w.heap.size w w'
def wcells (zs : List Int) : List Value := zs.map (Value.int .u64)
theorem wcells_append (a b : List Int) : wcells (a ++ b) = wcells a ++ wcells b := by unfold wcells; rw [List.map_append]
theorem owns_words {w : World} {base : Nat} {v : Value} {n : Nat} {L : List Int} (h : w.ownsRow base 43 1 v n (wcells L)) : ∃ a c, v = .slice a L.length c ∧ WordsAt w a L := by
  have h1 : L.length = n := by have := h.1; unfold wcells at this; rw [List.length_map] at this; omega
  subst h1
  rcases h.2 with ⟨rfl, h0⟩ | ⟨g, cap, cur, rfl, _, _, _, _, _, _⟩
  · exact ⟨none, 0, by rw [h0], fun k hk => by omega⟩
  · refine ⟨_, cap, rfl, fun k hk => ⟨g, 0, rfl, ?_⟩⟩
    have := h.cells (g := g) rfl k (.int .u64 (L.getD k 0)) (by unfold wcells; simp [hk])
    rw [add_two rfl] at this
    exact this
theorem news_word {W : World} {u : Value} {t : TypeId} {p : Nat} (hp : p = W.heap.size) : ∀ (j : Nat) (z : Value), [u][j]? = some z → (W.alloc (.cells #[u] t)).cell? (Addr.add ⟨p, 0, none⟩ j) = some z := by
  intro j z hj
  subst hp
  have h0 : j = 0 := by have := (List.getElem?_eq_some_iff.1 hj).1; simp at this; omega
  subst h0
  rw [add_two rfl]
  have hz : u = z := by simpa using hj
  subst hz
  have h := alloc_at (w := W) (o := .cells #[u] t) rfl
  simp only [World.cell?, h]
  rfl
theorem renc_code (x : Ci) (A : Option Addr) (N cp : Nat) (h : x.code ≠ 0) (w : World) : Calls Try.prog 34 #[rvl x, .slice A N cp] w (REncBad x.code w) := by
  unfold REncBad
  obtain ⟨k, f, b, l, W, c⟩ := x
  have hC := fun w => rcheck_any k f b l W c w
  unfold rvl
  generalize (Ci.mk k f b l W c).code = z at *
  have h1 : (z != 0) = true := by simpa using h
  replace hC := Lib.hid hC
  clear h
  go_enter Try.func34, Try.ntmps34
  go_upto_region 1 with (fail)
  refine name_wp (fun w1 => Below w.heap.size w w1 ∧ w1.heap[w.heap.size]? = some (.cells #[.int .i64 k, .int .i64 f, .int .i64 b, .int .i64 l, .int .i64 W, .int .i64 c] 32 (0, 0))) ⟨(Below.refl _ _).alloc (Nat.le_refl _) _, alloc_at rfl⟩ ?_
  rintro w1 ⟨hb, k0⟩
  obtain ⟨c0, c1, c2, c3, c4, c5⟩ := blk6 k0
  go_wp2_with fail
  refine call_then (hC.out _) ?_
  intro w2 hb2
  replace hb := below_next hb hb.size hb2
  replace k0 := keeps hb2 k0
  clear hb2 c0 c1 c2 c3 c4 c5
  obtain ⟨c0, c1, c2, c3, c4, c5⟩ := blk6 k0
  go_wp2
  go_ret2
  exact ⟨rfl, hb⟩
theorem renc_size (x : Ci) (A : Option Addr) (N cp : Nat) (h : x.Good) (hN : N ≠ x.measuredN) (w : World) : Calls Try.prog 34 #[rvl x, .slice A N cp] w (REncBad 9 w) := by
  unfold REncBad
  have hO := rout_any x h
  have hz := h.code
  unfold Ci.measuredN at hN
  obtain ⟨k, f, b, l, W, c⟩ := x
  have hC := fun w => rcheck_any k f b l W c w
  unfold rvl NumBy at *
  simp only at hN
  generalize (Ci.mk k f b l W c).outN = M at *
  rw [hz] at hC
  replace hC := Lib.hid hC
  replace hO := Lib.hid hO
  clear h hz
  by_cases h4 : k = 4
  · subst h4
    rw [if_pos rfl] at hN
    have n1 : ((N : Int) != 1) = true := by simp; omega
    clear hN
    go_enter Try.func34, Try.ntmps34
    go_upto_region 1 with (fail)
    refine name_wp (fun w1 => Below w.heap.size w w1 ∧ w1.heap[w.heap.size]? = some (.cells #[.int .i64 4, .int .i64 f, .int .i64 b, .int .i64 l, .int .i64 W, .int .i64 c] 32 (0, 0))) ⟨(Below.refl _ _).alloc (Nat.le_refl _) _, alloc_at rfl⟩ ?_
    rintro w1 ⟨hb, k0⟩
    obtain ⟨c0, c1, c2, c3, c4, c5⟩ := blk6 k0
    go_wp2_with fail
    refine call_then (hC.out _) ?_
    intro w2 hb2
    replace hb := below_next hb hb.size hb2
    replace k0 := keeps hb2 k0
    clear hb2 c0 c1 c2 c3 c4 c5
    obtain ⟨c0, c1, c2, c3, c4, c5⟩ := blk6 k0
    go_wp2_with fail
    refine call_then (hO.out _) ?_
    intro w2 hb2
    replace hb := below_next hb hb.size hb2
    replace k0 := keeps hb2 k0
    clear hb2 c0 c1 c2 c3 c4 c5
    obtain ⟨c0, c1, c2, c3, c4, c5⟩ := blk6 k0
    go_wp2
    go_ret2
    exact ⟨rfl, hb⟩
  · rw [if_neg h4] at hN
    have n1 : ((N : Int) != (M : Int)) = true := by simp; omega
    have n2 : (N != M) = true := by simpa using hN
    have e4 : (k == 4) = false := by simpa using h4
    clear hN h4
    go_enter Try.func34, Try.ntmps34
    go_upto_region 1 with (fail)
    refine name_wp (fun w1 => Below w.heap.size w w1 ∧ w1.heap[w.heap.size]? = some (.cells #[.int .i64 k, .int .i64 f, .int .i64 b, .int .i64 l, .int .i64 W, .int .i64 c] 32 (0, 0))) ⟨(Below.refl _ _).alloc (Nat.le_refl _) _, alloc_at rfl⟩ ?_
    rintro w1 ⟨hb, k0⟩
    obtain ⟨c0, c1, c2, c3, c4, c5⟩ := blk6 k0
    go_wp2_with fail
    refine call_then (hC.out _) ?_
    intro w2 hb2
    replace hb := below_next hb hb.size hb2
    replace k0 := keeps hb2 k0
    clear hb2 c0 c1 c2 c3 c4 c5
    obtain ⟨c0, c1, c2, c3, c4, c5⟩ := blk6 k0
    go_wp2_with fail
    refine call_then (hO.out _) ?_
    intro w2 hb2
    replace hb := below_next hb hb.size hb2
    replace k0 := keeps hb2 k0
    clear hb2 c0 c1 c2 c3 c4 c5
    obtain ⟨c0, c1, c2, c3, c4, c5⟩ := blk6 k0
    go_wp2
    go_ret2
    exact ⟨rfl, hb⟩
/-- The document's offset. -/
theorem roffset_any (k f b l c : Int) (W : Nat) (h1 : W ≤ 64) (w : World) : Calls Try.prog 73 #[.agg #[.int .i64 k, .int .i64 f, .int .i64 b, .int .i64 l, .int .i64 (W : Int), .int .i64 c]] w fun e w' => e = .returned (.int .i64 (offN W : Int)) ∧ Below w.heap.size w w' := by
  have hwb := fun w => rwb_any k f b l (W : Int) c (by omega) (by omega) w
  simp only [Int.toNat_natCast] at hwb
  have hlt := bl_lt h1
  have hle := bl_le h1
  unfold offN
  generalize Lib.bitLen W = B at *
  have hp := pow_le7 hle
  replace hwb := Lib.hid hwb
  go_enter Try.func73, Try.ntmps73
  go_upto_region 1 with (fail)
  refine name_wp (fun w1 => Below w.heap.size w w1 ∧ w1.heap[w.heap.size]? = some (.cells #[.int .i64 k, .int .i64 f, .int .i64 b, .int .i64 l, .int .i64 (W : Int), .int .i64 c] 32 (0, 0))) ⟨(Below.refl _ _).alloc (Nat.le_refl _) _, alloc_at rfl⟩ ?_
  rintro w1 ⟨hb, k0⟩
  obtain ⟨c0, c1, c2, c3, c4, c5⟩ := blk6 k0
  go_wp2
  clear c0 c1 c2 c3 c4 c5
  go_loopw [3, 4] (fun v i wr => ∃ j X : Nat, j ≤ B ∧ X ≤ 128 ∧ Hid (X = 2 ^ j) ∧ i = .int .i64 (j : Int) ∧ v = .int .i64 (X : Int) ∧ Below w.heap.size w wr ∧ wr.heap[w.heap.size]? = some (.cells #[.int .i64 k, .int .i64 f, .int .i64 b, .int .i64 l, .int .i64 (W : Int), .int .i64 c] 32 (0, 0))) (fun _ i _ => B - (intOf i).toNat)
  case atStart => exact ⟨0, 1, Nat.zero_le _, by omega, Lib.hid rfl, rfl, rfl, hb, k0⟩
  case round =>
    clear hb k0
    obtain ⟨j, X, hj, hX1, hX, rfl, rfl, hb, k0⟩ := hrel
    obtain ⟨c0, c1, c2, c3, c4, c5⟩ := blk6 k0
    go_wp2_with fail
    refine call_then (hwb.out _) ?_
    intro w2 hb2
    replace hb := below_next hb hb.size hb2
    replace k0 := keeps hb2 k0
    clear hb2 c0 c1 c2 c3 c4 c5
    obtain ⟨c0, c1, c2, c3, c4, c5⟩ := blk6 k0
    by_cases hlt2 : j < B
    · have j1 : (j : Int) < (B : Int) := by omega
      have hX3 : X * 2 ≤ 128 := by
        have h9 : 2 ^ (j + 1) ≤ 2 ^ 7 := Nat.pow_le_pow_right (by omega) (by omega)
        rw [Nat.pow_succ, ← hX.out] at h9
        omega
      go_wp2
      exact ⟨⟨j + 1, X * 2, by omega, hX3, Lib.hid (by have := hX.out; rw [Nat.pow_succ]; omega), by go_num, by go_num, hb, k0⟩, by simp [intOf]; omega⟩
    · obtain rfl : B = j := by omega
      have j1 : ¬ (B : Int) < (B : Int) := by omega
      rw [← hX.out] at hlt
      obtain ⟨R, hR⟩ : ∃ R, X - 1 - W = R := ⟨_, rfl⟩
      have z1 : (X : Int) - 1 - (W : Int) = (R : Int) := by omega
      have z2 : (1 : Int) ≤ (X : Int) := by omega
      have z3 : (W : Int) ≤ (X : Int) - 1 := by omega
      replace hR := Lib.hid hR
      go_wp2
      go_ret
      exact ⟨by rw [← hX.out, hR.out, ← z1]; rfl, hb⟩
end Go.Proofs.Ytgdokfchfgnbbaa
