import Derived.Test.YtebgfelbffgnbaaGreatDoorCiMath
import Derived.Test.YtebgfelbffgnbaaGreatDoorBA
import Derived.Test.YtebgfelbffgnbaaGreatDoorShelf
import Derived.Deep.RegionWith
import Derived.Deep.Cut
/-
  The program's circuits: whether one may be.
-/
namespace Go.Proofs.YtebgfelbffgnbaaGreatDoor
open Go.RowKit Flow
set_option linter.unusedVariables false
set_option linter.unusedSimpArgs false

theorem wrap_i {z : Int} {n : Nat} (h : z = (n : Int)) (hn : n < 9223372036854775808) : IntKind.i64.wrap z = (n : Int) := by
  subst h
  simp only [IntKind.wrap_i64]
  omega
theorem within_any (n most : Int) (is : Bool) (w : World) : Calls Tryz.prog 103 #[.int .i64 n, .bool is, .int .i64 most] w fun e w' => e = .returned (.bool (inside n is most)) ∧ Below w.heap.size w w' := by
  cases is with
  | false =>
    go_enter Tryz.func103, Tryz.ntmps103
    go_wp2
    go_ret
    exact ⟨rfl, Below.refl _ _⟩
  | true =>
    by_cases h : 1 ≤ n
    · have b1 : decide (n ≥ 1) = true := by simpa using h
      go_enter Tryz.func103, Tryz.ntmps103
      go_wp2
      go_ret
      exact ⟨by simp [inside, h], Below.refl _ _⟩
    · have b1 : decide (n ≥ 1) = false := by simpa using h
      go_enter Tryz.func103, Tryz.ntmps103
      go_wp2
      go_ret
      exact ⟨by simp [inside]; omega, Below.refl _ _⟩
/-- The six cells of a circuit. -/
theorem blk6 {w : World} {p : Nat} {a b c d e f : Value} {t : TypeId} {z : Nat × Nat} (h : w.heap[p]? = some (.cells #[a, b, c, d, e, f] t z)) :
    w.cell? ⟨p, 0, none⟩ = some a ∧ w.cell? ⟨p, 1, none⟩ = some b ∧ w.cell? ⟨p, 2, none⟩ = some c ∧ w.cell? ⟨p, 3, none⟩ = some d ∧ w.cell? ⟨p, 4, none⟩ = some e ∧ w.cell? ⟨p, 5, none⟩ = some f := by
  refine ⟨?_, ?_, ?_, ?_, ?_, ?_⟩ <;> simp [World.cell?, h]
theorem wb_any (k f b l W c : Int) (h0 : 0 ≤ W) (h1 : W ≤ 64) (w : World) : Calls Tryz.prog 57 #[.agg #[.int .u8 k, .int .u8 f, .int .i64 b, .int .i64 l, .int .i64 W, .int .i64 c]] w fun e w' => e = .returned (.int .i64 (Lib.bitLen W.toNat)) ∧ Below w.heap.size w w' := by
  have hw : IntKind.u64.wrap W = W := by rw [IntKind.wrap_u64]; omega
  have hl := fun w => Tryz.bits_Len W w h0 (by omega)
  replace hl := Lib.hid hl
  go_enter Tryz.func57, Tryz.ntmps57
  go_wp2_with fail
  refine (hl.out _).mono ?_
  rintro e w1 ⟨rfl, rfl⟩
  go_wp2
  go_ret
  exact ⟨rfl, (Below.refl _ _).alloc (Nat.le_refl _) _⟩
theorem cin_any (k f b l W c : Int) (h : (Ci.mk k f b l W c).Fits) (w : World) : Calls Tryz.prog 51 #[.agg #[.int .u8 k, .int .u8 f, .int .i64 b, .int .i64 l, .int .i64 W, .int .i64 c]] w fun e w' => e = .returned (.int .i64 ((Ci.mk k f b l W c).inN : Int)) ∧ Below w.heap.size w w' := by
  have hk : k = 1 ∨ k = 2 ∨ k = 3 ∨ k = 4 ∨ k = 5 := by have := h.k1; have := h.k5; simp only at *; omega
  rcases hk with rfl | rfl | rfl | rfl | rfl
  · have hN : ((Ci.mk 1 f b l W c).inN : Int) = 1 := by simp [Ci.inN]
    rw [hN]
    clear hN h
    go_enter Tryz.func51, Tryz.ntmps51
    go_upto_region 1 with (fail)
    refine name_wp (fun w1 => Below w.heap.size w w1 ∧ w1.heap[w.heap.size]? = some (.cells #[.int .u8 1, .int .u8 f, .int .i64 b, .int .i64 l, .int .i64 W, .int .i64 c] 33 (0, 0))) ⟨(Below.refl _ _).alloc (Nat.le_refl _) _, alloc_at rfl⟩ ?_
    rintro w1 ⟨hb, k0⟩
    obtain ⟨c0, c1, c2, c3, c4, c5⟩ := blk6 k0
    go_wp2
    go_ret
    exact ⟨rfl, hb⟩
  · have hb2 := h.b (.inl rfl)
    have hN : ((Ci.mk 2 f b l W c).inN : Int) = b := by simp only [Ci.inN] at *; simp; omega
    rw [hN]
    clear hN h
    go_enter Tryz.func51, Tryz.ntmps51
    go_upto_region 1 with (fail)
    refine name_wp (fun w1 => Below w.heap.size w w1 ∧ w1.heap[w.heap.size]? = some (.cells #[.int .u8 2, .int .u8 f, .int .i64 b, .int .i64 l, .int .i64 W, .int .i64 c] 33 (0, 0))) ⟨(Below.refl _ _).alloc (Nat.le_refl _) _, alloc_at rfl⟩ ?_
    rintro w1 ⟨hb, k0⟩
    obtain ⟨c0, c1, c2, c3, c4, c5⟩ := blk6 k0
    go_wp2
    go_ret
    exact ⟨rfl, hb⟩
  · have hb2 := h.b (.inr rfl)
    have hl2 := h.l (by simp)
    simp only at hb2 hl2
    obtain ⟨nb, rfl⟩ := Int.eq_ofNat_of_zero_le (show 0 ≤ b by omega)
    obtain ⟨nl, rfl⟩ := Int.eq_ofNat_of_zero_le (show 0 ≤ l by omega)
    have hN : ((Ci.mk 3 f nb nl W c).inN : Int) = ((nb * nl : Nat) : Int) := by simp [Ci.inN]
    have hm : nb * nl ≤ 32 * 64 := Nat.mul_le_mul (by omega) (by omega)
    obtain ⟨P, hP⟩ : ∃ P, nb * nl = P := ⟨_, rfl⟩
    have zP : IntKind.i64.wrap ((nb : Int) * (nl : Int)) = (P : Int) := wrap_i (by rw [← hP, Int.natCast_mul]) (by omega)
    rw [hN, hP]
    replace hP := Lib.hid hP
    clear hN h
    go_enter Tryz.func51, Tryz.ntmps51
    go_upto_region 1 with (fail)
    refine name_wp (fun w1 => Below w.heap.size w w1 ∧ w1.heap[w.heap.size]? = some (.cells #[.int .u8 3, .int .u8 f, .int .i64 (nb : Int), .int .i64 (nl : Int), .int .i64 W, .int .i64 c] 33 (0, 0))) ⟨(Below.refl _ _).alloc (Nat.le_refl _) _, alloc_at rfl⟩ ?_
    rintro w1 ⟨hb, k0⟩
    obtain ⟨c0, c1, c2, c3, c4, c5⟩ := blk6 k0
    go_wp2
    go_ret
    exact ⟨rfl, hb⟩
  · have hl2 := h.l (by simp)
    have hN : ((Ci.mk 4 f b l W c).inN : Int) = l := by simp only [Ci.inN] at *; simp; omega
    rw [hN]
    clear hN h
    go_enter Tryz.func51, Tryz.ntmps51
    go_upto_region 1 with (fail)
    refine name_wp (fun w1 => Below w.heap.size w w1 ∧ w1.heap[w.heap.size]? = some (.cells #[.int .u8 4, .int .u8 f, .int .i64 b, .int .i64 l, .int .i64 W, .int .i64 c] 33 (0, 0))) ⟨(Below.refl _ _).alloc (Nat.le_refl _) _, alloc_at rfl⟩ ?_
    rintro w1 ⟨hb, k0⟩
    obtain ⟨c0, c1, c2, c3, c4, c5⟩ := blk6 k0
    go_wp2
    go_ret
    exact ⟨rfl, hb⟩
  · have hl2 := h.l (by simp)
    have hw2 := h.w rfl
    simp only at hl2 hw2
    have hN : ((Ci.mk 5 f b l W c).inN : Int) = l + (Lib.bitLen W.toNat : Int) := by simp only [Ci.inN] at *; simp; omega
    have hB := bitLen_le W.toNat (by omega)
    have hwb := fun w => wb_any 5 f b l W c (by omega) (by omega) w
    rw [hN]
    generalize Lib.bitLen W.toNat = B at *
    replace hwb := Lib.hid hwb
    clear hN h
    go_enter Tryz.func51, Tryz.ntmps51
    go_upto_region 1 with (fail)
    refine name_wp (fun w1 => Below w.heap.size w w1 ∧ w1.heap[w.heap.size]? = some (.cells #[.int .u8 5, .int .u8 f, .int .i64 b, .int .i64 l, .int .i64 W, .int .i64 c] 33 (0, 0))) ⟨(Below.refl _ _).alloc (Nat.le_refl _) _, alloc_at rfl⟩ ?_
    rintro w1 ⟨hb, k0⟩
    obtain ⟨c0, c1, c2, c3, c4, c5⟩ := blk6 k0
    go_upto_region 9 with (fail)
    refine wp_region_flow0 (by kernel_rfl) (by kernel_rfl) ?_
    intro ι _ φ hφ
    have q := fun i => blk6 (keeps (hφ.old i) k0)
    have q0 := fun i => (q i).1
    have q1 := fun i => (q i).2.1
    have q2 := fun i => (q i).2.2.1
    have q3 := fun i => (q i).2.2.2.1
    have q4 := fun i => (q i).2.2.2.2.1
    have q5 := fun i => (q i).2.2.2.2.2
    clear q
    repeat (go_big_quiet_step ((first
      | (go_at_call 57; exact flow_call hφ (hwb.out _)))))
    refine wpQuiet_nil ?_
    intro w2 hw2
    clear q0 q1 q2 q3 q4 q5 hφ c0 c1 c2 c3 c4 c5
    go_wp2
    go_ret
    exact ⟨rfl, below_next hb hb.size hw2⟩
theorem ccalls_any (k f b l W c : Int) (h : (Ci.mk k f b l W c).Fits) (w : World) : Calls Tryz.prog 74 #[.agg #[.int .u8 k, .int .u8 f, .int .i64 b, .int .i64 l, .int .i64 W, .int .i64 c]] w fun e w' => e = .returned (.int .i64 ((Ci.mk k f b l W c).callsN : Int)) ∧ Below w.heap.size w w' := by
  have hk : k = 1 ∨ k = 2 ∨ 3 ≤ k := by have := h.k1; have := h.k5; simp only at *; omega
  rcases hk with rfl | rfl | h3
  · have hN : ((Ci.mk 1 f b l W c).callsN : Int) = 1 := by simp [Ci.callsN]
    rw [hN]
    clear hN h
    go_enter Tryz.func74, Tryz.ntmps74
    go_upto_region 1 with (fail)
    refine name_wp (fun w1 => Below w.heap.size w w1 ∧ w1.heap[w.heap.size]? = some (.cells #[.int .u8 1, .int .u8 f, .int .i64 b, .int .i64 l, .int .i64 W, .int .i64 c] 33 (0, 0))) ⟨(Below.refl _ _).alloc (Nat.le_refl _) _, alloc_at rfl⟩ ?_
    rintro w1 ⟨hb, k0⟩
    obtain ⟨c0, c1, c2, c3, c4, c5⟩ := blk6 k0
    go_wp2
    go_ret
    exact ⟨rfl, hb⟩
  · have hb2 := h.b (.inl rfl)
    have hN : ((Ci.mk 2 f b l W c).callsN : Int) = b := by simp only [Ci.callsN] at *; simp; omega
    rw [hN]
    clear hN h
    go_enter Tryz.func74, Tryz.ntmps74
    go_upto_region 1 with (fail)
    refine name_wp (fun w1 => Below w.heap.size w w1 ∧ w1.heap[w.heap.size]? = some (.cells #[.int .u8 2, .int .u8 f, .int .i64 b, .int .i64 l, .int .i64 W, .int .i64 c] 33 (0, 0))) ⟨(Below.refl _ _).alloc (Nat.le_refl _) _, alloc_at rfl⟩ ?_
    rintro w1 ⟨hb, k0⟩
    obtain ⟨c0, c1, c2, c3, c4, c5⟩ := blk6 k0
    go_wp2
    go_ret
    exact ⟨rfl, hb⟩
  · have hin := fun w => cin_any k f b l W c h w
    have hle := h.in_le
    have hc := h.c h3
    have hk5 := h.k5
    simp only at hc hk5
    have b1 : decide (k = 1) = false := by rw [decide_eq_false_iff_not]; omega
    have b2 : decide (k = 2) = false := by rw [decide_eq_false_iff_not]; omega
    have n1 : k ≠ 1 := by omega
    have n2 : k ≠ 2 := by omega
    obtain ⟨nc, hnc⟩ := Int.eq_ofNat_of_zero_le (show 0 ≤ c by omega)
    have hN : (Ci.mk k f b l W c).callsN = ((Ci.mk k f b l W c).inN + nc - 1) / nc := by
      unfold Ci.callsN pieces
      rw [if_neg (show ¬ k = 1 by omega), if_neg (show ¬ k = 2 by omega)]
      simp [hnc]
    rw [hN]
    generalize (Ci.mk k f b l W c).inN = I at *
    obtain ⟨X, hX⟩ : ∃ X, I + nc - 1 = X := ⟨_, rfl⟩
    obtain ⟨Y, hY⟩ : ∃ Y, I + nc = Y := ⟨_, rfl⟩
    have zX1 : IntKind.i64.wrap ((I : Int) + c) = (Y : Int) := wrap_i (by omega) (by omega)
    have zX2 : IntKind.i64.wrap ((Y : Int) - 1) = (X : Int) := wrap_i (by omega) (by omega)
    obtain ⟨Q, hQ⟩ : ∃ Q, X / nc = Q := ⟨_, rfl⟩
    rw [hX, hQ]
    have hQX : Q ≤ X := by rw [← hQ]; exact Nat.div_le_self _ _
    have hdv : (X : Int).tdiv c = (Q : Int) := by rw [hnc, ← hQ]; rfl
    have zQ : IntKind.i64.wrap (Q : Int) = (Q : Int) := wrap_i rfl (by omega)
    replace hY := Lib.hid hY
    replace hin := Lib.hid hin
    replace hX := Lib.hid hX
    replace hQ := Lib.hid hQ
    replace hnc := Lib.hid hnc
    clear hN h hle hQX
    go_enter Tryz.func74, Tryz.ntmps74
    go_upto_region 1 with (fail)
    refine name_wp (fun w1 => Below w.heap.size w w1 ∧ w1.heap[w.heap.size]? = some (.cells #[.int .u8 k, .int .u8 f, .int .i64 b, .int .i64 l, .int .i64 W, .int .i64 c] 33 (0, 0))) ⟨(Below.refl _ _).alloc (Nat.le_refl _) _, alloc_at rfl⟩ ?_
    rintro w1 ⟨hb, k0⟩
    obtain ⟨c0, c1, c2, c3, c4, c5⟩ := blk6 k0
    go_upto_region 6 with (fail)
    refine wp_region_flow0 (by kernel_rfl) (by kernel_rfl) ?_
    intro ι _ φ hφ
    have q := fun i => blk6 (keeps (hφ.old i) k0)
    have q0 := fun i => (q i).1
    have q1 := fun i => (q i).2.1
    have q2 := fun i => (q i).2.2.1
    have q3 := fun i => (q i).2.2.2.1
    have q4 := fun i => (q i).2.2.2.2.1
    have q5 := fun i => (q i).2.2.2.2.2
    clear q
    repeat (go_big_quiet_step ((first
      | (go_at_call 51; exact flow_call hφ (hin.out _)))))
    refine wpQuiet_nil ?_
    intro w2 hw2
    clear q0 q1 q2 q3 q4 q5 hφ c0 c1 c2 c3 c4 c5
    go_wp2
    go_ret
    exact ⟨rfl, below_next hb hb.size hw2⟩
theorem fvalid_any (f : Int) (w : World) : Calls Tryz.prog 75 #[.int .u8 f] w fun e w' => e = .returned (.bool (decide (f = 1 ∨ f = 2))) ∧ Below w.heap.size w w' := by
  by_cases h1 : f = 1
  · subst h1
    go_enter Tryz.func75, Tryz.ntmps75
    go_wp2
    go_ret
    exact ⟨rfl, Below.refl _ _⟩
  · by_cases h2 : f = 2
    · subst h2
      go_enter Tryz.func75, Tryz.ntmps75
      go_wp2
      go_ret
      exact ⟨rfl, Below.refl _ _⟩
    · go_enter Tryz.func75, Tryz.ntmps75
      go_wp2
      go_ret
      exact ⟨by simp [h1, h2], Below.refl _ _⟩
end Go.Proofs.YtebgfelbffgnbaaGreatDoor

/-
  The document's circuits: how many elements all has.
-/
namespace Go.Proofs.YtebgfelbffgnbaaGreatDoor
open Go.RowKit Flow
set_option linter.unusedVariables false
set_option linter.unusedSimpArgs false

theorem used_any (n most : Int) (is : Bool) (w : World) : Calls Tryz.prog 101 #[.int .i64 n, .int .i64 most, .bool is] w fun e w' => e = .returned (.bool (inside n is most)) ∧ Below w.heap.size w w' := by
  cases is with
  | false =>
    go_enter Tryz.func101, Tryz.ntmps101
    go_wp2
    go_ret
    exact ⟨rfl, Below.refl _ _⟩
  | true =>
    by_cases h : 1 ≤ n
    · have b1 : decide (n ≥ 1) = true := by simpa using h
      go_enter Tryz.func101, Tryz.ntmps101
      go_wp2
      go_ret
      exact ⟨by simp [inside, h], Below.refl _ _⟩
    · have b1 : decide (n ≥ 1) = false := by simpa using h
      go_enter Tryz.func101, Tryz.ntmps101
      go_wp2
      go_ret
      exact ⟨by simp [inside]; omega, Below.refl _ _⟩
theorem rwb_any (k f b l W c : Int) (h0 : 0 ≤ W) (h1 : W ≤ 64) (w : World) : Calls Tryz.prog 154 #[.agg #[.int .i64 k, .int .i64 f, .int .i64 b, .int .i64 l, .int .i64 W, .int .i64 c]] w fun e w' => e = .returned (.int .i64 (Lib.bitLen W.toNat)) ∧ Below w.heap.size w w' := by
  obtain ⟨nW, rfl⟩ := Int.eq_ofNat_of_zero_le h0
  have hn : nW ≤ 64 := by omega
  have hB := bitLen_le nW (by omega)
  rw [Int.toNat_natCast]
  obtain ⟨T, hT⟩ : ∃ T, Lib.bitLen nW = T := ⟨_, rfl⟩
  rw [hT] at hB ⊢
  replace hT := Lib.hid hT
  go_enter Tryz.func154, Tryz.ntmps154
  go_upto_region 1 with (fail)
  refine name_wp (fun w1 => Below w.heap.size w w1 ∧ w1.heap[w.heap.size]? = some (.cells #[.int .i64 k, .int .i64 f, .int .i64 b, .int .i64 l, .int .i64 (nW : Int), .int .i64 c] 80 (0, 0))) ⟨(Below.refl _ _).alloc (Nat.le_refl _) _, alloc_at rfl⟩ ?_
  rintro w1 ⟨hb, k0⟩
  obtain ⟨c0, c1, c2, c3, c4, c5⟩ := blk6 k0
  go_wp2
  clear c0 c1 c2 c3 c4 c5 k0
  go_loopw [3, 4] (fun i v wr => ∃ n x : Nat, i = .int .i64 (n : Int) ∧ v = .int .i64 (x : Int) ∧ Hid (n + Lib.bitLen x = T) ∧ x ≤ 64 ∧ Below w.heap.size w wr) (fun _ v _ => (intOf v).toNat)
  case atStart => exact ⟨0, nW, rfl, rfl, Lib.hid (by rw [hT.out]; omega), hn, hb⟩
  case round =>
    clear hb
    obtain ⟨n, x, rfl, rfl, hnx, hx, hb⟩ := hrel
    by_cases hlt : 0 < x
    · have hh := Lib.bitLen_half x (by omega) (by omega)
      have hn1 : n + 1 + Lib.bitLen (x / 2) = T := by have := hnx.out; omega
      have b1 : decide ((x : Int) > 0) = true := by rw [decide_eq_true_eq]; omega
      have zn : n ≤ 64 := by have := hnx.out; omega
      obtain ⟨y, hy⟩ : ∃ y, x / 2 = y := ⟨_, rfl⟩
      have zy : (x : Int).tdiv 2 = (y : Int) := by rw [← hy]; rfl
      have zy2 : (x : Int) / 2 = (y : Int) := by omega
      have hyx : y < x := by omega
      rw [hy] at hn1
      replace hn1 := Lib.hid hn1
      replace hy := Lib.hid hy
      clear hh
      go_wp2
      exact ⟨⟨n + 1, y, by go_num, rfl, hn1, by omega, hb⟩, by simp [intOf]; omega⟩
    · obtain rfl : x = 0 := by omega
      have b1 : decide (((0 : Nat) : Int) > 0) = false := by simp
      have hnT : n = T := by have := hnx.out; simpa [Lib.bitLen, Lib.bitLenAux] using this
      subst hnT
      go_wp2
      go_ret
      exact ⟨rfl, hb⟩
end Go.Proofs.YtebgfelbffgnbaaGreatDoor

/-
  The document's circuits: how many elements a vector has, how often the gadget is called.
-/
namespace Go.Proofs.YtebgfelbffgnbaaGreatDoor
open Go.RowKit Flow
set_option linter.unusedVariables false
set_option linter.unusedSimpArgs false

theorem rin_any (k f b l W c : Int) (h : (Ci.mk k f b l W c).Fits) (w : World) : Calls Tryz.prog 135 #[.agg #[.int .i64 k, .int .i64 f, .int .i64 b, .int .i64 l, .int .i64 W, .int .i64 c]] w fun e w' => e = .returned (.int .i64 ((Ci.mk k f b l W c).inN : Int)) ∧ Below w.heap.size w w' := by
  have hk : k = 1 ∨ k = 2 ∨ k = 3 ∨ k = 4 ∨ k = 5 := by have := h.k1; have := h.k5; simp only at *; omega
  rcases hk with rfl | rfl | rfl | rfl | rfl
  · have hN : ((Ci.mk 1 f b l W c).inN : Int) = 1 := by simp [Ci.inN]
    rw [hN]
    clear hN h
    go_enter Tryz.func135, Tryz.ntmps135
    go_upto_region 1 with (fail)
    refine name_wp (fun w1 => Below w.heap.size w w1 ∧ w1.heap[w.heap.size]? = some (.cells #[.int .i64 1, .int .i64 f, .int .i64 b, .int .i64 l, .int .i64 W, .int .i64 c] 80 (0, 0))) ⟨(Below.refl _ _).alloc (Nat.le_refl _) _, alloc_at rfl⟩ ?_
    rintro w1 ⟨hb, k0⟩
    obtain ⟨c0, c1, c2, c3, c4, c5⟩ := blk6 k0
    go_wp2
    go_ret
    exact ⟨rfl, hb⟩
  · have hb2 := h.b (.inl rfl)
    have hN : ((Ci.mk 2 f b l W c).inN : Int) = b := by simp only [Ci.inN] at *; simp; omega
    rw [hN]
    clear hN h
    go_enter Tryz.func135, Tryz.ntmps135
    go_upto_region 1 with (fail)
    refine name_wp (fun w1 => Below w.heap.size w w1 ∧ w1.heap[w.heap.size]? = some (.cells #[.int .i64 2, .int .i64 f, .int .i64 b, .int .i64 l, .int .i64 W, .int .i64 c] 80 (0, 0))) ⟨(Below.refl _ _).alloc (Nat.le_refl _) _, alloc_at rfl⟩ ?_
    rintro w1 ⟨hb, k0⟩
    obtain ⟨c0, c1, c2, c3, c4, c5⟩ := blk6 k0
    go_wp2
    go_ret
    exact ⟨rfl, hb⟩
  · have hb2 := h.b (.inr rfl)
    have hl2 := h.l (by simp)
    simp only at hb2 hl2
    obtain ⟨nb, rfl⟩ := Int.eq_ofNat_of_zero_le (show 0 ≤ b by omega)
    obtain ⟨nl, rfl⟩ := Int.eq_ofNat_of_zero_le (show 0 ≤ l by omega)
    have hN : ((Ci.mk 3 f nb nl W c).inN : Int) = ((nb * nl : Nat) : Int) := by simp [Ci.inN]
    have hm : nb * nl ≤ 32 * 64 := Nat.mul_le_mul (by omega) (by omega)
    obtain ⟨P, hP⟩ : ∃ P, nb * nl = P := ⟨_, rfl⟩
    have zP : IntKind.i64.wrap ((nb : Int) * (nl : Int)) = (P : Int) := wrap_i (by rw [← hP, Int.natCast_mul]) (by omega)
    rw [hN, hP]
    replace hP := Lib.hid hP
    clear hN h
    go_enter Tryz.func135, Tryz.ntmps135
    go_upto_region 1 with (fail)
    refine name_wp (fun w1 => Below w.heap.size w w1 ∧ w1.heap[w.heap.size]? = some (.cells #[.int .i64 3, .int .i64 f, .int .i64 (nb : Int), .int .i64 (nl : Int), .int .i64 W, .int .i64 c] 80 (0, 0))) ⟨(Below.refl _ _).alloc (Nat.le_refl _) _, alloc_at rfl⟩ ?_
    rintro w1 ⟨hb, k0⟩
    obtain ⟨c0, c1, c2, c3, c4, c5⟩ := blk6 k0
    go_wp2
    go_ret
    exact ⟨rfl, hb⟩
  · have hl2 := h.l (by simp)
    have hN : ((Ci.mk 4 f b l W c).inN : Int) = l := by simp only [Ci.inN] at *; simp; omega
    rw [hN]
    clear hN h
    go_enter Tryz.func135, Tryz.ntmps135
    go_upto_region 1 with (fail)
    refine name_wp (fun w1 => Below w.heap.size w w1 ∧ w1.heap[w.heap.size]? = some (.cells #[.int .i64 4, .int .i64 f, .int .i64 b, .int .i64 l, .int .i64 W, .int .i64 c] 80 (0, 0))) ⟨(Below.refl _ _).alloc (Nat.le_refl _) _, alloc_at rfl⟩ ?_
    rintro w1 ⟨hb, k0⟩
    obtain ⟨c0, c1, c2, c3, c4, c5⟩ := blk6 k0
    go_wp2
    go_ret
    exact ⟨rfl, hb⟩
  · have hl2 := h.l (by simp)
    have hw2 := h.w rfl
    simp only at hl2 hw2
    have hN : ((Ci.mk 5 f b l W c).inN : Int) = l + (Lib.bitLen W.toNat : Int) := by simp only [Ci.inN] at *; simp; omega
    have hB := bitLen_le W.toNat (by omega)
    have hwb := fun w => rwb_any 5 f b l W c (by omega) (by omega) w
    rw [hN]
    generalize Lib.bitLen W.toNat = B at *
    replace hwb := Lib.hid hwb
    clear hN h
    go_enter Tryz.func135, Tryz.ntmps135
    go_upto_region 1 with (fail)
    refine name_wp (fun w1 => Below w.heap.size w w1 ∧ w1.heap[w.heap.size]? = some (.cells #[.int .i64 5, .int .i64 f, .int .i64 b, .int .i64 l, .int .i64 W, .int .i64 c] 80 (0, 0))) ⟨(Below.refl _ _).alloc (Nat.le_refl _) _, alloc_at rfl⟩ ?_
    rintro w1 ⟨hb, k0⟩
    obtain ⟨c0, c1, c2, c3, c4, c5⟩ := blk6 k0
    go_upto_region 10 with (fail)
    refine wp_region_flow0 (by kernel_rfl) (by kernel_rfl) ?_
    intro ι _ φ hφ
    have q := fun i => blk6 (keeps (hφ.old i) k0)
    have q0 := fun i => (q i).1
    have q1 := fun i => (q i).2.1
    have q2 := fun i => (q i).2.2.1
    have q3 := fun i => (q i).2.2.2.1
    have q4 := fun i => (q i).2.2.2.2.1
    have q5 := fun i => (q i).2.2.2.2.2
    clear q
    repeat (go_big_quiet_step ((first
      | (go_at_call 154; exact flow_call hφ (hwb.out _)))))
    refine wpQuiet_nil ?_
    intro w2 hw2
    clear q0 q1 q2 q3 q4 q5 hφ c0 c1 c2 c3 c4 c5
    go_wp2
    go_ret
    exact ⟨rfl, below_next hb hb.size hw2⟩
theorem rcalls_any (k f b l W c : Int) (h : (Ci.mk k f b l W c).Fits) (w : World) : Calls Tryz.prog 102 #[.agg #[.int .i64 k, .int .i64 f, .int .i64 b, .int .i64 l, .int .i64 W, .int .i64 c]] w fun e w' => e = .returned (.int .i64 ((Ci.mk k f b l W c).callsN : Int)) ∧ Below w.heap.size w w' := by
  have hk : k = 1 ∨ k = 2 ∨ 3 ≤ k := by have := h.k1; have := h.k5; simp only at *; omega
  rcases hk with rfl | rfl | h3
  · have hN : ((Ci.mk 1 f b l W c).callsN : Int) = 1 := by simp [Ci.callsN]
    rw [hN]
    clear hN h
    go_enter Tryz.func102, Tryz.ntmps102
    go_upto_region 1 with (fail)
    refine name_wp (fun w1 => Below w.heap.size w w1 ∧ w1.heap[w.heap.size]? = some (.cells #[.int .i64 1, .int .i64 f, .int .i64 b, .int .i64 l, .int .i64 W, .int .i64 c] 80 (0, 0))) ⟨(Below.refl _ _).alloc (Nat.le_refl _) _, alloc_at rfl⟩ ?_
    rintro w1 ⟨hb, k0⟩
    obtain ⟨c0, c1, c2, c3, c4, c5⟩ := blk6 k0
    go_wp2
    go_ret
    exact ⟨rfl, hb⟩
  · have hb2 := h.b (.inl rfl)
    have hN : ((Ci.mk 2 f b l W c).callsN : Int) = b := by simp only [Ci.callsN] at *; simp; omega
    rw [hN]
    clear hN h
    go_enter Tryz.func102, Tryz.ntmps102
    go_upto_region 1 with (fail)
    refine name_wp (fun w1 => Below w.heap.size w w1 ∧ w1.heap[w.heap.size]? = some (.cells #[.int .i64 2, .int .i64 f, .int .i64 b, .int .i64 l, .int .i64 W, .int .i64 c] 80 (0, 0))) ⟨(Below.refl _ _).alloc (Nat.le_refl _) _, alloc_at rfl⟩ ?_
    rintro w1 ⟨hb, k0⟩
    obtain ⟨c0, c1, c2, c3, c4, c5⟩ := blk6 k0
    go_wp2
    go_ret
    exact ⟨rfl, hb⟩
  · have hin := fun w => rin_any k f b l W c h w
    have hle := h.in_le
    have hc := h.c h3
    have hk5 := h.k5
    simp only at hc hk5
    have n1 : k ≠ 1 := by omega
    have n2 : k ≠ 2 := by omega
    have e1 : (k == 1) = false := by simpa using n1
    have e2 : (k == 2) = false := by simpa using n2
    obtain ⟨nc, hnc⟩ := Int.eq_ofNat_of_zero_le (show 0 ≤ c by omega)
    have nc0 : 0 < nc := by omega
    have nc16 : nc ≤ 16 := by omega
    have hN : (Ci.mk k f b l W c).callsN = pieces (Ci.mk k f b l W c).inN nc := by
      unfold Ci.callsN
      rw [if_neg (show ¬ k = 1 by omega), if_neg (show ¬ k = 2 by omega)]
      simp [hnc]
    rw [hN]
    generalize (Ci.mk k f b l W c).inN = I at *
    have hPl := pieces_le I nc0
    have hpl := fun j => pieces_lt I j nc0
    obtain ⟨T, hT⟩ : ∃ T, pieces I nc = T := ⟨_, rfl⟩
    rw [hT] at hPl hpl ⊢
    replace hin := Lib.hid hin
    replace hpl := Lib.hid hpl
    clear hN h hT
    subst hnc
    go_enter Tryz.func102, Tryz.ntmps102
    go_upto_region 1 with (fail)
    refine name_wp (fun w1 => Below w.heap.size w w1 ∧ w1.heap[w.heap.size]? = some (.cells #[.int .i64 k, .int .i64 f, .int .i64 b, .int .i64 l, .int .i64 W, .int .i64 (nc : Int)] 80 (0, 0))) ⟨(Below.refl _ _).alloc (Nat.le_refl _) _, alloc_at rfl⟩ ?_
    rintro w1 ⟨hb, k0⟩
    obtain ⟨c0, c1, c2, c3, c4, c5⟩ := blk6 k0
    go_wp2
    clear c0 c1 c2 c3 c4 c5
    go_loopw [3, 4] (fun i v wr => ∃ j a : Nat, i = .int .i64 (j : Int) ∧ v = .int .i64 (a : Int) ∧ Hid (a = j * nc) ∧ j ≤ T ∧ Below w.heap.size w wr ∧ wr.heap[w.heap.size]? = some (.cells #[.int .i64 k, .int .i64 f, .int .i64 b, .int .i64 l, .int .i64 W, .int .i64 (nc : Int)] 80 (0, 0))) (fun i _ _ => T - (intOf i).toNat)
    case atStart => exact ⟨0, 0, rfl, rfl, Lib.hid (by simp), Nat.zero_le _, hb, k0⟩
    case round =>
      clear hb k0
      obtain ⟨j, a, rfl, rfl, ha, hj, hb, k0⟩ := hrel
      obtain ⟨c0, c1, c2, c3, c4, c5⟩ := blk6 k0
      have hjT := hpl.out j
      rw [← ha.out] at hjT
      go_wp2_with fail
      refine call_then (hin.out _) ?_
      intro w2 hb2
      replace hb := below_next hb hb.size hb2
      replace k0 := keeps hb2 k0
      clear hb2 c0 c1 c2 c3 c4 c5
      obtain ⟨c0, c1, c2, c3, c4, c5⟩ := blk6 k0
      by_cases hlt : j < T
      · have haI := hjT.2 hlt
        have b1 : decide ((a : Int) < (I : Int)) = true := by rw [decide_eq_true_eq]; omega
        have ha2 : a + nc = (j + 1) * nc := by rw [Nat.succ_mul, ha.out]
        replace ha2 := Lib.hid ha2
        clear hjT
        go_wp2
        exact ⟨⟨j + 1, a + nc, by go_num, by go_num, ha2, hlt, hb, k0⟩, by simp [intOf]; omega⟩
      · obtain rfl : j = T := by omega
        have haI : ¬ a < I := fun h => hlt (hjT.1 h)
        have b1 : decide ((a : Int) < (I : Int)) = false := by rw [decide_eq_false_iff_not]; omega
        clear hjT
        go_wp2
        go_ret
        exact ⟨rfl, hb⟩
end Go.Proofs.YtebgfelbffgnbaaGreatDoor
