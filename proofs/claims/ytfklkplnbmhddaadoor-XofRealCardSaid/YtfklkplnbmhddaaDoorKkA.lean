/-
  Numbers turned; the columns mixed.
-/
import Derived.Test.YtfklkplnbmhddaaDoorKkRound
import Derived.Test.YtfklkplnbmhddaaDoorPost
import Derived.Test.YtfklkplnbmhddaaDoorChecked
import Derived.WalkKit
import Derived.ProofKit
import Derived.Outline
import Derived.Lib.Hide
import Derived.BigQuiet
import Derived.Deep.RegionWith
namespace Go.Proofs.YtfklkplnbmhddaaDoor
open Go.RowKit Flow
set_option linter.unusedVariables false
set_option linter.unusedSimpArgs false

theorem rl_bits (n k : Nat) (hk : k < 64) (hn : n < 18446744073709551616) : bits BinOp.or IntKind.u64 (IntKind.u64.wrap ((n : Int) * 2 ^ k)) ((n : Int) / 2 ^ (64 - k)) = ((rl n k : Nat) : Int) := by
  have e1 : IntKind.u64.wrap ((n : Int) * 2 ^ k) = ((n * 2 ^ k % 18446744073709551616 : Nat) : Int) := by
    rw [IntKind.wrap_u64]
    simp
  have e2 : (n : Int) / 2 ^ (64 - k) = ((n / 2 ^ (64 - k) : Nat) : Int) := by simp
  have e64 : (18446744073709551616 : Nat) = 2 ^ (64 - k) * 2 ^ k := by rw [← Nat.pow_add, Nat.sub_add_cancel (by omega)]
  have h2 : n / 2 ^ (64 - k) < 2 ^ k := by
    rw [Nat.div_lt_iff_lt_mul (Nat.pow_pos (by decide)), Nat.mul_comm, ← e64]; exact hn
  have h1 : n * 2 ^ k % 18446744073709551616 % 2 ^ k = 0 := by
    rw [e64, Nat.mul_mod_mul_right, Nat.mul_mod_left]
  have h3 : n / 2 ^ (64 - k) ≤ n := Nat.div_le_self _ _
  rw [e1, e2, u64_or_nat _ _ (Nat.mod_lt _ (by decide)) (by omega), nat_join k _ _ h1 h2]
  rfl
set_option maxHeartbeats 1000000 in
theorem rotl_any (n k : Nat) (hk : k < 64) (hn : n < 18446744073709551616) (w : World) : Calls Tryd.prog 57 #[.int .u64 (n : Int), .int .i64 (k : Int)] w fun e w' => e = .returned (.int .u64 ((rl n k : Nat) : Int)) ∧ Below w.heap.size w w' := by
  have hr := rl_bits n k hk hn
  have k0 : (0 : Int) ≤ (k : Int) := by omega
  have k1 : (k : Int) < 64 := by omega
  have ha : bits BinOp.and IntKind.u64 (k : Int) 63 = (k : Int) := by
    have h := u64_and_nat k 63 (by omega) (by decide)
    have e : k &&& 63 = k := by rw [nat_mask6]; omega
    rw [e] at h
    exact h
  replace hn := Lib.hid hn
  go_enter Tryd.func57, Tryd.ntmps57
  go_wp2
  go_ret
  exact ⟨rfl, Below.refl _ _⟩
theorem below_drewN' {B : Nat} {a w : World} (h : Below B a w) (n : Nat) : Below B a (w.drewN n) := ⟨h.os, h.tape, h.output, h.size, h.block⟩
theorem but_below' {p : Nat} {w w1 w2 : World} (h : But p w w1) (h2 : Below w1.heap.size w1 w2) : But p w w2 := h.next h2
/-- The first ones are new, the others as they were. -/
def part (g f : Nat → Nat) (k : Nat) : Nat → Nat := fun i => if i < k then g i else f i
theorem part_zero (g f : Nat → Nat) (i : Nat) : f i = part g f 0 i := by simp [part]
theorem part_at (g f : Nat → Nat) (k : Nat) : part g f k k = f k := by simp [part]
theorem part_all (g f : Nat → Nat) {k i : Nat} (h : i < k) : part g f k i = g i := by simp [part, h]
theorem part_step (g f : Nat → Nat) (k i : Nat) : upd (part g f k) k (g k) i = part g f (k + 1) i := by
  unfold upd part
  by_cases h : i = k
  · subst h; simp
  · by_cases h2 : i < k
    · rw [if_neg h, if_pos h2, if_pos (by omega)]
    · rw [if_neg h, if_neg h2, if_neg (by omega)]
theorem left_u {n L : Nat} (h : n < L) : L - (intOf (.int .i64 ((n : Int) + 1))).toNat < L - (intOf (.int .i64 (n : Int))).toNat := by
  show L - ((n : Int) + 1).toNat < L - ((n : Int)).toNat
  omega
theorem xor_nat {a b : Nat} (ha : a < 18446744073709551616) (hb : b < 18446744073709551616) : bits BinOp.xor IntKind.u64 (a : Int) (b : Int) = ((a ^^^ b : Nat) : Int) := u64_xor_nat a b ha hb
/-- A state was changed, and nothing else that was there. -/
def Turned (w : World) (b : Nat) (T : TypeId) (tl : List Value) (g : Nat → Nat) (e : Ending) (w' : World) : Prop := e = .returned (.tuple #[]) ∧ But b w w' ∧ Sta w' b T tl g
theorem tmod_nat {k m n : Nat} (h : k % n = m) : ((k : Nat) : Int).tmod (n : Int) = (m : Int) := by
  rw [Int.tmod_eq_emod_of_nonneg (by omega)]
  omega
set_option maxHeartbeats 2000000 in
theorem mixCols_ok (b : Nat) (T : TypeId) (tl : List Value) (f : Nat → Nat) (hf : Lim f) (w : World) (h : Sta w b T tl f) : Calls Tryd.prog 51 #[.pointer (some ⟨b, 0, none⟩)] w (Turned w b T tl (mixC f)) := by
  have hlb := h.lt
  have hf' := hf
  replace hf := Lib.hid hf
  replace hf' := Lib.hid hf'
  go_enter Tryd.func51, Tryd.ntmps51
  go_wp2
  have hb0 : Below w.heap.size w (w.alloc (.cells (arr (sumsF f 0) 5).toArray 99 (0, 0))) := (Below.refl _ _).alloc (Nat.le_refl _) _
  have hs0 : Nums (w.alloc (.cells (arr (sumsF f 0) 5).toArray 99 (0, 0))) w.heap.size 99 5 (sumsF f 0) := alloc_at rfl
  go_loopw [7] (fun i wr => ∃ k : Nat, k ≤ 25 ∧ i = .int .i64 (k : Int) ∧ Below w.heap.size w wr ∧ Nums wr w.heap.size 99 5 (sumsF f k)) (fun i _ => 25 - (intOf i).toNat)
  case atStart => exact ⟨0, by omega, rfl, hb0, hs0⟩
  case round =>
    clear hb0 hs0
    obtain ⟨k, hk, rfl, hb, hs⟩ := hrel
    by_cases hlt : k < 25
    · have k0 : (0 : Int) ≤ (k : Int) := by omega
      have k1 : (k : Int) < 25 := by omega
      have hm5 : k % 5 < 5 := by omega
      have c0 := (h.up hb).cell hlt
      have hx := xor_nat (sums_lim hf.out k hk (k % 5) hm5) (hf.out k hlt)
      have hsu : upd (sumsF f k) (k % 5) (sumsF f k (k % 5) ^^^ f k) = sumsF f (k + 1) := rfl
      replace hsu := Lib.hid hsu
      go_wp2
      go_quiet (fail)
      replace hb := below_drewN' hb nq
      have hs' : Nums (wr.drewN nq) w.heap.size 99 5 (sumsF f k) := hs
      replace hs := hs'
      have d0 := hs.cell hm5
      have d1 : (wr.drewN nq).frozen? ⟨w.heap.size, k % 5, none⟩ = false := hs.free
      have hst := hs.set (k := k % 5) (sumsF f k (k % 5) ^^^ f k)
      rw [hsu.out] at hst
      replace hst := Lib.hid hst
      go_wp2
      exact ⟨⟨k + 1, by omega, by go_num, hb.setCell (p := ⟨w.heap.size, k % 5, none⟩) (Nat.le_refl _) _, hst.out⟩, left_u (by assumption)⟩
    · obtain rfl : k = 25 := by omega
      have hS := sums_lim hf.out 25 (Nat.le_refl _)
      replace hS := Lib.hid hS
      go_wp2
      go_loopw [21] (fun i wr => ∃ k : Nat, k ≤ 25 ∧ i = .int .i64 (k : Int) ∧ But b w wr ∧ Nums wr w.heap.size 99 5 (sumsF f 25) ∧ Sta wr b T tl (part (mixC f) f k)) (fun i _ => 25 - (intOf i).toNat)
      case atStart => exact ⟨0, by omega, rfl, But.of_below hb, hs, (h.up hb).congr fun i _ => part_zero _ _ i⟩
      case round =>
        clear hb hs
        obtain ⟨k, hk, rfl, hb, hs, hn⟩ := hrel
        by_cases hlt : k < 25
        · obtain ⟨a4, ha4⟩ : ∃ m, k + 4 = m := ⟨_, rfl⟩
          obtain ⟨a1, ha1⟩ : ∃ m, k + 1 = m := ⟨_, rfl⟩
          have l4 : a4 % 5 < 5 := by omega
          have l1 : a1 % 5 < 5 := by omega
          have z4 : IntKind.i64.wrap ((k : Int) + 4) = (a4 : Int) := by simp only [IntKind.wrap_i64]; omega
          have z1 : IntKind.i64.wrap ((k : Int) + 1) = (a1 : Int) := by simp only [IntKind.wrap_i64]; omega
          have k0 : (0 : Int) ≤ (k : Int) := by omega
          have k1 : (k : Int) < 25 := by omega
          have c0 := hn.cell hlt
          rw [part_at] at c0
          have d4 := hs.cell l4
          have d1 := hs.cell l1
          have hx1 := xor_nat (hS.out _ l4) (rl_lt _ 1 (by decide) (hS.out _ l1))
          have hx2 := xor_nat (hf.out k hlt) (xor_lim (hS.out _ l4) (rl_lt _ 1 (by decide) (hS.out _ l1)))
          have hv : f k ^^^ (sumsF f 25 (a4 % 5) ^^^ rl (sumsF f 25 (a1 % 5)) 1) = mixC f k := by
            unfold mixC
            rw [← ha4, ← ha1]
          rw [hv] at hx2
          have hrot : ∀ w, Calls Tryd.prog 57 #[.int .u64 ((sumsF f 25 (a1 % 5) : Nat) : Int), .int .i64 1] w fun e w' => e = .returned (.int .u64 ((rl (sumsF f 25 (a1 % 5)) 1 : Nat) : Int)) ∧ Below w.heap.size w w' := fun w => rotl_any (sumsF f 25 (a1 % 5)) 1 (by decide) (hS.out _ l1) w
          have hps : upd (part (mixC f) f k) k (mixC f k) = part (mixC f) f (k + 1) := funext fun i => part_step _ _ _ _
          replace hrot := Lib.hid hrot
          replace hv := Lib.hid hv
          replace ha4 := Lib.hid ha4
          replace ha1 := Lib.hid ha1
          replace hps := Lib.hid hps
          generalize sumsF f 25 (a4 % 5) = S4 at *
          generalize rl (sumsF f 25 (a1 % 5)) 1 = R1 at *
          generalize sumsF f 25 (a1 % 5) = S1 at *
          obtain ⟨X, hX⟩ : ∃ X, mixC f k = X := ⟨_, rfl⟩
          rw [hX] at hx2
          replace hX := Lib.hid hX
          go_wp2
          refine wp_region_flow1 20 (by kernel_rfl) (by kernel_rfl) (by kernel_rfl) ?_
          apply Exists.intro
          refine ⟨fun ι _ φ hφ => ?_, fun wt hwt => ?_⟩
          · have b0 := hφ.cell c0
            have b4 := hφ.cell d4
            have b1 := hφ.cell d1
            simp only [List.take_succ_cons, List.take_zero]
            repeat (go_big_quiet_step ((go_at_call 57; exact flow_call hφ (hrot.out _))))
            exact wpQuiet_nil rfl
          replace hb := but_below' hb hwt
          replace hs := hs.up hwt
          replace hn := hn.up hwt
          have d1' : wt.frozen? ⟨b, k, none⟩ = false := hn.free
          have c1' := hn.cell hlt
          have hst := hn.set (k := k) hlt X
          rw [← hX.out, hps.out, hX.out] at hst
          clear hwt z1 z4
          simp only [List.drop_succ_cons, List.drop_zero]
          go_wp2
          exact ⟨⟨k + 1, by omega, by go_num, hb.set _, hs.far (by omega), hst⟩, left_u (by assumption)⟩
        · obtain rfl : k = 25 := by omega
          go_wp2
          go_end0
          exact ⟨rfl, hb, hn.congr fun i hi => part_all _ _ hi⟩
end Go.Proofs.YtfklkplnbmhddaaDoor
