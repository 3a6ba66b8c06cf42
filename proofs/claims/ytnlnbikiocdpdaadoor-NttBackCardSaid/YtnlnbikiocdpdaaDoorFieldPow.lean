/-
  Contracts of package field: powers of an element.
-/
import Derived.Test.YtnlnbikiocdpdaaDoorFieldEach
namespace Go.Proofs.YtnlnbikiocdpdaaDoor
open Go.RowKit F Flow
set_option linter.unusedVariables false
attribute [local go_sem] eql_elem

/-- a to a number, by multiplying. -/
def power (op : Int → Int → Int) (a : Int) : Nat → Int
  | 0 => 1
  | n + 1 => op (power op a n) a
/-- 1, a, and so on. -/
def powers (op : Int → Int → Int) (a : Int) (n : Nat) : List Int := (List.range n).map (power op a)
theorem powers_length (op : Int → Int → Int) (a : Int) (n : Nat) : (powers op a n).length = n := by simp [powers]
theorem powers_at (op : Int → Int → Int) (a : Int) {n k : Nat} (h : k < n) : (powers op a n).getD k 0 = power op a k := by simp [powers, h]
theorem power_ok {op : Int → Int → Int} {a : Int} (h : ∀ x, 0 ≤ x → x < 340282366920938463463374607431768211456 → 0 ≤ op x a ∧ op x a < 340282366920938463463374607431768211456) : ∀ k, 0 ≤ power op a k ∧ power op a k < 340282366920938463463374607431768211456
  | 0 => by unfold power; decide
  | k + 1 => by have := power_ok h k; exact h _ this.1 this.2
set_option maxHeartbeats 2000000 in
theorem fpowers_any (n a : Int) (many : Nat) (op : Int → Int → Int) (a0 : 0 ≤ a) (a1 : a < 340282366920938463463374607431768211456) (h0 : 0 < many) (h1 : many ≤ 4096)
    (hval : ∀ w, Calls Tryd.prog 22 #[.int .u8 n] w fun e w' => e = .returned (.bool true) ∧ Below w.heap.size w w')
    (hone : ∀ w, Calls Tryd.prog 40 #[.int .u8 n] w fun e w' => e = .returned (.agg #[.int .u64 1, .int .u64 0]) ∧ Below w.heap.size w w')
    (hop : OpBy 29 n op) (w : World) :
    Calls Tryd.prog 24 #[.int .u8 n, .agg #[.int .u64 (lo a), .int .u64 (hi a)], .int .i64 (many : Int)] w fun e w' =>
      ∃ g, e = .returned (.slice (some ⟨g, 0, none⟩) many many) ∧ Below w.heap.size w w' ∧ w.heap.size ≤ g ∧ Row w' g (powers op a many) := by
  have hmk := make_elems many (by omega)
  have hmin : min (many : Int) 4096 = many := by omega
  have hpow := fun k => power_ok (op := op) (a := a) (fun x x0 x1 => (hop x a x0 x1 a0 a1).1) k
  have hstep : ∀ k, Hid (∀ w, Calls Tryd.prog 29 #[.int .u8 n, .agg #[.int .u64 (lo (power op a k)), .int .u64 (hi (power op a k))], .agg #[.int .u64 (lo a), .int .u64 (hi a)]] w fun e w' => e = .returned (.agg #[.int .u64 (lo (power op a (k + 1))), .int .u64 (hi (power op a (k + 1)))]) ∧ Below w.heap.size w w') :=
    fun k => (hop _ _ (hpow k).1 (hpow k).2 a0 a1).2
  replace hval := Lib.hid hval
  replace hone := Lib.hid hone
  replace hstep := Lib.hid hstep
  clear hop hpow
  go_enter Tryd.func24, Tryd.ntmps24
  go_wp2_with fail
  refine name_calls (fun w1 => Below w.heap.size w w1 ∧ Holds w1 w.heap.size a) ⟨(Below.refl _ _).alloc (Nat.le_refl _) _, alloc_at rfl⟩ ?_
  rintro w1 ⟨hb, k0⟩
  refine call_then (hval.out _) ?_
  intro w2 hw
  replace hb := below_next hb hb.size hw
  replace k0 := k0.up hw
  clear hw hval
  go_wp2_with fail
  clear hmin
  have hl := hb.size
  refine name_calls (fun w3 => Below w.heap.size w w3 ∧ Holds w3 w.heap.size a ∧ Row w3 w2.heap.size (List.replicate many 0)) ⟨hb.alloc hb.size _, k0.alloc _, alloc_at rfl⟩ ?_
  have hne : w.heap.size < w2.heap.size := lt_of_get k0
  clear hb k0 hmk
  generalize w2.heap.size = l at *
  rintro w3 ⟨hb, k0, hr⟩
  refine call_then (hone.out _) ?_
  intro w4 hw
  replace hb := below_next hb hb.size hw
  replace k0 := k0.up hw
  replace hr := hr.up hw
  clear hw hone
  go_wp2
  refine name_wp (fun w5 => Below w.heap.size w w5 ∧ Holds w5 w.heap.size a ∧ Row w5 l (powers op a 0 ++ List.replicate (many - 0) 0) ∧ Holds w5 w4.heap.size (power op a 0)) ⟨hb.alloc hb.size _, k0.alloc _, hr.alloc _, alloc_at rfl⟩ ?_
  have hs := hb.size
  have hlp : l < w4.heap.size := lt_of_get hr
  clear hb k0 hr
  generalize w4.heap.size = p at *
  rintro w5 ⟨hb, k0, hr, hp⟩
  go_loopw [24] (fun i wr => ∃ k : Nat, k ≤ many ∧ i = .int .i64 k ∧ Below w.heap.size w wr ∧ Holds wr w.heap.size a ∧ Row wr l (powers op a k ++ List.replicate (many - k) 0) ∧ Holds wr p (power op a k)) (fun i _ => many - (intOf i).toNat)
  case atStart => exact ⟨0, Nat.zero_le _, rfl, hb, k0, hr, hp⟩
  case round =>
    obtain ⟨k, hk, rfl, hb, k0, hr, hp⟩ := hrel
    by_cases hlt : k < many
    · have hlen : k < (powers op a k ++ List.replicate (many - k) 0).length := by simp [powers]; omega
      have hset : (powers op a k ++ List.replicate (many - k) 0).set k (power op a k) = powers op a (k + 1) ++ List.replicate (many - (k + 1)) 0 := by
        rw [List.set_append_right _ _ (by simp [powers])]
        rw [powers_length, Nat.sub_self, show many - k = (many - (k + 1)) + 1 by omega, List.replicate_succ, List.set_cons_zero]
        simp [powers, List.range_succ]
      have hc := hstep.out k
      generalize power op a k = x at *
      generalize hy : power op a (k + 1) = y at *
      replace hy := Lib.hid hy
      replace hset := Lib.hid hset
      have s0 := hr.lo hlen
      have s1 := hr.hi hlen
      have f0 := hr.free (k * 2)
      have f1 := hr.free (k * 2 + 1)
      obtain ⟨r0, r1, u0, u1⟩ := blk2 hp
      obtain ⟨q0, q1, _, _⟩ := blk2 k0
      have i0 : (0 : Int) ≤ (k : Int) := by omega
      have i1 : (k : Int) < (many : Int) := by omega
      have n1 : p ≠ l := by omega
      have n2 : w.heap.size ≠ l := by omega
      replace hlen := Lib.hid hlen
      go_wp2_with fail
      clear s0 s1 f0 f1 r0 r1 u0 u1 q0 q1
      refine name_calls (fun w6 => Below w.heap.size w w6 ∧ Holds w6 w.heap.size a ∧ Row w6 l (powers op a (k + 1) ++ List.replicate (many - (k + 1)) 0) ∧ Holds w6 p x)
        ⟨(hb.setCell (p := ⟨l, k * 2, none⟩) hl _).setCell (p := ⟨l, k * 2 + 1, none⟩) hl _, k0.far' n2, by rw [← hset.out]; exact hr.set hlen.out _, hp.far' n1⟩ ?_
      clear hb k0 hr hp hset hlen
      rintro w6 ⟨hb, k0, hr, hp⟩
      refine call_then (hc.out _) ?_
      intro w7 hw
      replace hb := below_next hb hb.size hw
      replace k0 := k0.up hw
      replace hr := hr.up hw
      replace hp := hp.up hw
      clear hw
      obtain ⟨r0, r1, u0, u1⟩ := blk2 hp
      go_wp2
      clear r0 r1 u0 u1
      go_roundw
      case rel => exact ⟨k + 1, hlt, by go_num, below_store2 hb hs, k0.far (by omega), hr.far (Ne.symm n1), by rw [hy.out]; exact hp.set _⟩
      case measure => simp [intOf]; omega
    · have hkl : k = many := by omega
      subst hkl
      rw [Nat.sub_self, List.replicate_zero, List.append_nil] at hr
      replace hr := Lib.hid hr
      clear hstep
      go_wp2
      go_ret
      exact ⟨l, rfl, hb, hl, hr.out⟩
theorem fpowers_none (n a many : Int) (h : many ≤ 0) (hm : -9223372036854775808 ≤ many)
    (hval : ∀ w, Calls Tryd.prog 22 #[.int .u8 n] w fun e w' => e = .returned (.bool true) ∧ Below w.heap.size w w') (w : World) :
    Calls Tryd.prog 24 #[.int .u8 n, .agg #[.int .u64 (lo a), .int .u64 (hi a)], .int .i64 many] w fun e w' => e = .returned (.slice none 0 0) ∧ Below w.heap.size w w' := by
  replace hval := Lib.hid hval
  go_enter Tryd.func24, Tryd.ntmps24
  go_wp2_with fail
  refine name_calls (fun w1 => Below w.heap.size w w1) ((Below.refl _ _).alloc (Nat.le_refl _) _) ?_
  rintro w1 hb
  refine call_then (hval.out _) ?_
  intro w2 hw
  replace hb := below_next hb hb.size hw
  go_wp2
  go_ret
  exact ⟨rfl, hb⟩
/-- Each field's operations, as calls. -/
theorem opBy_add1 : OpBy 34 1 (add 1) := fun a b _ _ _ _ => ⟨by have := add_bound 1 a b; rw [M1] at this; omega, fadd_one a b⟩
theorem opBy_add2 : OpBy 34 2 (add 2) := fun a b a0 a1 b0 b1 => ⟨by have := add_bound 2 a b; rw [M2] at this; omega, fadd_two a b a0 a1 b0 b1⟩
theorem opBy_sub1 : OpBy 37 1 (sub 1) := fun a b _ _ _ _ => ⟨by have := sub_bound 1 a b; rw [M1] at this; omega, fsub_one a b⟩
theorem opBy_sub2 : OpBy 37 2 (sub 2) := fun a b a0 a1 b0 b1 => ⟨by have := sub_bound 2 a b; rw [M2] at this; omega, fsub_two a b a0 a1 b0 b1⟩
theorem opBy_mul1 : OpBy 29 1 (mul 1) := fun a b _ _ _ _ => ⟨by have := mul_bound 1 a b; rw [M1] at this; omega, fmul_one a b⟩
theorem opBy_mul2 : OpBy 29 2 (mul 2) := fun a b a0 a1 b0 b1 => ⟨by have := mul_bound 2 a b; rw [M2] at this; omega, fmul_two a b a0 a1 b0 b1⟩
/-- Slices that came in, in whatever world has new memory beside. -/
def Came (w : World) (A : Option Addr) (xs : List Int) (k : Nat) (b o : Nat) : Prop :=
  A = some ⟨b, o, none⟩ ∧ ∀ v, Below w.heap.size w v → v.cell? ⟨b, o + k * 2, none⟩ = some (.int .u64 (lo (xs.getD k 0))) ∧ v.cell? ⟨b, o + k * 2 + 1, none⟩ = some (.int .u64 (hi (xs.getD k 0)))
theorem ElemsAt.came {w : World} {A : Option Addr} {xs : List Int} (h : ElemsAt w A xs) {k : Nat} (hk : k < xs.length) : ∃ b o, Came w A xs k b o := by
  obtain ⟨b, o, e, h1, h2⟩ := h k hk
  exact ⟨b, o, e, fun v hv => ⟨(hv.cell (World.block_lt_of_cell? _ _ h1)).trans h1, (hv.cell (World.block_lt_of_cell? _ _ h2)).trans h2⟩⟩
end Go.Proofs.YtnlnbikiocdpdaaDoor
