import Derived.Test.YtebgfelbffgnbaaGreatDoorPolyAt
import Derived.Test.YtebgfelbffgnbaaGreatDoorFD
import Derived.Test.YtebgfelbffgnbaaGreatDoorDH
/-
  Mathematics of a gadget's value: a polynomial's value from either end; sums of pairs' products.
-/
namespace Go.Proofs.YtebgfelbffgnbaaGreatDoor
open F Flow Go.RowKit
set_option linter.unusedVariables false

/-- What so many pairs make, each multiplied, summed. -/
def prs (mul add : Int → Int → Int) (xs : List Int) : Nat → Int
  | 0 => 0
  | k + 1 => add (prs mul add xs k) (mul (xs.getD (k * 2) 0) (xs.getD (k * 2 + 1) 0))
/-- The law's numbers: so many, over and over again. -/
def gin (f : Int) (ls : List Int) (n : Nat) : List Int := (List.range n).map fun i => redu f (ls.getD (i % ls.length) 0)
/-- The law's coefficients, before the last is made to be something. -/
def gcs (f : Int) (cs : List Int) (n : Nat) : List Int := (List.range n).map fun i => redu f (cs.getD i 0)
end Go.Proofs.YtebgfelbffgnbaaGreatDoor

/-
  Law 9's own first step: a Parallel gadget of two pairs.
-/
namespace Go.Proofs.YtebgfelbffgnbaaGreatDoor
open Go.RowKit F Flow
set_option linter.unusedVariables false
attribute [local go_sem] eql_elem

end Go.Proofs.YtebgfelbffgnbaaGreatDoor

/-
  Contracts of any gadget: its arity, its degree, whether it may be; its value, the program's and the law's own.
-/
namespace Go.Proofs.YtebgfelbffgnbaaGreatDoor
open Go.RowKit F Flow
set_option linter.unusedVariables false
attribute [local go_sem] eql_elem

/-- A gadget's value. -/
def gvl (k : Int) (A : Option Addr) (n c : Nat) (m : Int) : Value := .agg #[.int .u8 k, .slice A n c, .int .i64 m]
theorem gar_mul (A : Option Addr) (n c : Nat) (m : Int) (w : World) : Calls Tryz.prog 16 #[gvl 1 A n c m] w fun e w' => e = .returned (.int .i64 2) ∧ Below w.heap.size w w' := by
  unfold gvl
  go_enter Tryz.func16, Tryz.ntmps16
  go_wp2
  go_ret
  exact ⟨rfl, (Below.refl _ _).alloc (Nat.le_refl _) _⟩
theorem gar_eval (A : Option Addr) (n c : Nat) (m : Int) (w : World) : Calls Tryz.prog 16 #[gvl 2 A n c m] w fun e w' => e = .returned (.int .i64 1) ∧ Below w.heap.size w w' := by
  unfold gvl
  go_enter Tryz.func16, Tryz.ntmps16
  go_wp2
  go_ret
  exact ⟨rfl, (Below.refl _ _).alloc (Nat.le_refl _) _⟩
theorem gar_par (A : Option Addr) (n c m : Nat) (h1 : 1 ≤ m) (h2 : m ≤ 16) (w : World) : Calls Tryz.prog 16 #[gvl 3 A n c (m : Int)] w fun e w' => e = .returned (.int .i64 ((2 * m : Nat) : Int)) ∧ Below w.heap.size w w' := by
  unfold gvl
  have hm : max (0 : Int) (m : Int) = (m : Int) := by omega
  have hm2 : IntKind.i64.wrap (2 * (m : Int)) = ((2 * m : Nat) : Int) := by rw [IntKind.wrap_i64]; omega
  go_enter Tryz.func16, Tryz.ntmps16
  go_wp2
  all_goals first
    | omega
    | (go_ret
       exact ⟨by first | rfl | (congr 2; omega), (Below.refl _ _).alloc (Nat.le_refl _) _⟩)
/-- A gadget may be one. -/
def Fits (f : Int) (v : Value) (C : World → Prop) : Prop := ∀ w, C w → Calls Tryz.prog 128 #[v, .int .u8 f] w fun e w' => e = .returned (.int .i64 0) ∧ Below w.heap.size w w'
theorem gch_mul (f : Int) (A : Option Addr) (n c : Nat) (m : Int) (hval : ∀ w, Calls Tryz.prog 75 #[.int .u8 f] w fun e w' => e = .returned (.bool true) ∧ Below w.heap.size w w') (w : World) :
    Calls Tryz.prog 128 #[gvl 1 A n c m, .int .u8 f] w fun e w' => e = .returned (.int .i64 0) ∧ Below w.heap.size w w' := by
  unfold gvl
  replace hval := Lib.hid hval
  go_enter Tryz.func128, Tryz.ntmps128
  go_wp2_with fail
  refine name_calls (fun w1 => Below w.heap.size w w1 ∧ w1.heap[w.heap.size]? = some (.cells #[.int .u8 1, .slice A n c, .int .i64 m] 43 (0, 0))) ⟨(Below.refl _ _).alloc (Nat.le_refl _) _, alloc_at rfl⟩ ?_
  rintro w1 ⟨hb, k0⟩
  refine call_then (hval.out _) ?_
  intro w2 hb2
  replace hb := below_next hb hb.size hb2
  replace k0 := keeps hb2 k0
  clear hb2
  obtain ⟨c0, c1, c2, _⟩ := blk3 k0
  go_wp2
  go_ret
  exact ⟨rfl, hb⟩
theorem gch_par (f : Int) (A : Option Addr) (n c m : Nat) (h1 : 1 ≤ m) (h2 : m ≤ 16) (hval : ∀ w, Calls Tryz.prog 75 #[.int .u8 f] w fun e w' => e = .returned (.bool true) ∧ Below w.heap.size w w') (w : World) :
    Calls Tryz.prog 128 #[gvl 3 A n c (m : Int), .int .u8 f] w fun e w' => e = .returned (.int .i64 0) ∧ Below w.heap.size w w' := by
  unfold gvl
  replace hval := Lib.hid hval
  go_enter Tryz.func128, Tryz.ntmps128
  go_wp2_with fail
  refine name_calls (fun w1 => Below w.heap.size w w1 ∧ w1.heap[w.heap.size]? = some (.cells #[.int .u8 3, .slice A n c, .int .i64 (m : Int)] 43 (0, 0))) ⟨(Below.refl _ _).alloc (Nat.le_refl _) _, alloc_at rfl⟩ ?_
  rintro w1 ⟨hb, k0⟩
  refine call_then (hval.out _) ?_
  intro w2 hb2
  replace hb := below_next hb hb.size hb2
  replace k0 := keeps hb2 k0
  clear hb2
  obtain ⟨c0, c1, c2, _⟩ := blk3 k0
  have m1 : (1 : Int) ≤ (m : Int) := by omega
  have m2 : (m : Int) ≤ 16 := by omega
  go_wp2
  go_ret
  exact ⟨rfl, hb⟩
/- The same for any gadget: given its arity and that it may be, as many numbers are right, others not. -/
set_option maxHeartbeats 2000000 in
theorem gci_any (f k m : Int) (A : Option Addr) (n c : Nat) (N L : Nat) (C : World → Prop) (hN : N ≤ 100) (hL : L ≤ 200) (hup : ∀ w w', Below w.heap.size w w' → C w → C w')
    (hch : Fits f (gvl k A n c m) C) (har : ∀ w, Calls Tryz.prog 16 #[gvl k A n c m] w fun e w' => e = .returned (.int .i64 (N : Int)) ∧ Below w.heap.size w w')
    (w : World) (hC : C w) : Calls Tryz.prog 88 #[gvl k A n c m, .int .u8 f, .int .i64 (L : Int)] w fun e w' => e = .returned (.int .i64 (if L = N then 0 else 9)) ∧ Below w.heap.size w w' := by
  have hne : ((L : Int) != (N : Int)) = !decide (L = N) := by
    by_cases h : L = N
    · simp [h]
    · have : (L : Int) ≠ (N : Int) := by omega
      simp [h, this]
  unfold Fits gvl at *
  replace hch := Lib.hid hch
  replace har := Lib.hid har
  replace hup := Lib.hid hup
  go_enter Tryz.func88, Tryz.ntmps88
  go_wp2_with fail
  refine name_calls (fun w1 => Below w.heap.size w w1 ∧ w1.heap[w.heap.size]? = some (.cells #[.int .u8 k, .slice A n c, .int .i64 m] 43 (0, 0))) ⟨(Below.refl _ _).alloc (Nat.le_refl _) _, alloc_at rfl⟩ ?_
  rintro w1 ⟨hb, k0⟩
  refine call_then (hch.out _ (hup.out _ _ hb hC)) ?_
  intro w2 hb2
  replace hb := below_next hb hb.size hb2
  replace k0 := keeps hb2 k0
  clear hb2
  obtain ⟨c0, c1, c2, _⟩ := blk3 k0
  go_wp2_with fail
  clear c0 c1 c2
  refine call_then (har.out _) ?_
  intro w2 hb2
  replace hb := below_next hb hb.size hb2
  replace k0 := keeps hb2 k0
  clear hb2
  by_cases h : L = N
  · subst h
    simp only [decide_true, Bool.not_true] at hne
    go_wp2
    go_ret
    exact ⟨by simp, hb⟩
  · simp only [h, decide_false, Bool.not_false] at hne
    go_wp2
    go_ret
    exact ⟨by first | rfl | rw [if_neg h], hb⟩
end Go.Proofs.YtebgfelbffgnbaaGreatDoor

/-
  Contracts of any gadget: its value, the program's and the law's own.
-/
namespace Go.Proofs.YtebgfelbffgnbaaGreatDoor
open Go.RowKit F Flow
set_option linter.unusedVariables false
attribute [local go_sem] eql_elem

/-- What checkIn says. -/
def Takes (f : Int) (v : Value) (N : Nat) (C : World → Prop) : Prop := ∀ (L : Nat) w, L ≤ 200 → C w → Calls Tryz.prog 88 #[v, .int .u8 f, .int .i64 (L : Int)] w fun e w' => e = .returned (.int .i64 (if L = N then 0 else 9)) ∧ Below w.heap.size w w'
end Go.Proofs.YtebgfelbffgnbaaGreatDoor

/-
  The law's own value of a gadget; the reference's value of a polynomial.
-/
namespace Go.Proofs.YtebgfelbffgnbaaGreatDoor
open Go.RowKit F Flow
set_option linter.unusedVariables false
attribute [local go_sem] eql_elem

end Go.Proofs.YtebgfelbffgnbaaGreatDoor
