/-
  XofVecs: its walk.
-/
import Derived.Test.YtfklkplnbmhddaaDoorXpB
import Derived.Test.YtfklkplnbmhddaaDoorBytesArg
namespace Go.Proofs.YtfklkplnbmhddaaDoor
open Go.RowKit Flow Go.Maps F
set_option linter.unusedVariables false
set_option linter.unusedSimpArgs false

theorem arg_news {w : World} {A : Option Addr} {d : List Int} {c : Nat} (h : ArgBytes w A d) (hc : A = none → c = 0) : News w A d.length c 1 (d.map (Value.int .u8)) :=
  ⟨by simp, fun e => ⟨by rw [h.1 e]; rfl, hc e⟩, fun ad ha j u hj => h.2 ad ha j u hj⟩
theorem arg_far {w : World} {A : Option Addr} {d : List Int} (h : ArgBytes w A d) {S : Nat} (hS : w.heap.size ≤ S) (h0 : 0 < S) : ∃ b, (∀ ad, A = some ad → d ≠ [] → ad.block = b) ∧ b < S := by
  cases A with
  | none => exact ⟨0, fun ad e => (by cases e), h0⟩
  | some ad =>
    cases d with
    | nil => exact ⟨0, fun _ _ e => absurd rfl e, h0⟩
    | cons x xs =>
      have := World.block_lt_of_cell? _ _ (h.2 ad rfl 0 (.int .u8 x) rfl)
      rw [addr_add_block] at this
      exact ⟨ad.block, fun _ e _ => by cases e; rfl, by omega⟩
/-- The document's oracle, and the elements that the law has. -/
structure Want (w6 w : World) (sz lb lc : Nat) (own : Nat → Option Role) (d : List Int) (A : Option Addr) (cc at' : Nat) (v : Value) (n : Nat) (xs : List Value) : Prop where
  R : RefO w sz sz lb lc own d A cc at'
  b : Below sz w6 w
  row : w.ownsRow sz 58 2 v n xs
  wo : ∀ g, v.ownBlock = some g → own g = none
section
variable {w6 w w' : World} {sz lb lc : Nat} {own : Nat → Option Role} {d : List Int} {A : Option Addr} {cc at' n : Nat} {v : Value} {xs : List Value}
theorem Want.room (h : Want w6 w sz lb lc own d A cc at' v n xs) : sz ≤ w.heap.size := Nat.le_of_lt (h.R.hown sz _ h.R.rs).2
theorem Want.below (h : Want w6 w sz lb lc own d A cc at' v n xs) (hb : Below w.heap.size w w') : Want w6 w' sz lb lc own d A cc at' v n xs :=
  ⟨h.R.below hb, below_next h.b h.room hb, owns_up h.row hb, h.wo⟩
theorem Want.grown {v' : Value} {m : Nat} {ys : List Value} (h : Want w6 w sz lb lc own d A cc at' v n xs) (hg : w.grownBy w' v.ownBlock) (hrow : w'.ownsRow sz 58 2 v' m ys) (hv : v'.ownBlock = v.ownBlock ∨ v'.ownBlock = some w.heap.size) : Want w6 w' sz lb lc own d A cc at' v' m ys := by
  refine ⟨h.R.up (fun k hk hl => hg.block k hl fun e => ?_) hg.size, h.b.grown hg h.room (fun k hk => (h.row.lt k hk).1), hrow, fun g hgg => ?_⟩
  · rcases hk with hk | hk
    · exact hk (h.wo k e.symm)
    · have := (h.row.lt k e.symm).1
      omega
  · rcases hv with e | e
    · exact h.wo g (e ▸ hgg)
    · rw [e] at hgg
      cases hgg
      cases hh : own w.heap.size with
      | none => rfl
      | some r => have := (h.R.hown _ r hh).2; omega
end
theorem vecs_long (A : Option Addr) (n cc : Nat) (nn mm : Int) (hl : 400 < n) (w : World) : Calls Tryd.prog 4 #[.slice A n cc, .int .u8 nn, .int .i64 mm] w fun e w' => e = .returned (.bool true) ∧ Below w.heap.size w w' := by
  have hAw := Lib.hid (awake_ok w)
  have b1 : decide ((n : Int) > 400) = true := by rw [decide_eq_true_eq]; omega
  have b2 : decide ((400 : Int) < (n : Int)) = true := by rw [decide_eq_true_eq]; omega
  go_enter Tryd.func4, Tryd.ntmps4
  go_wp2_with fail
  refine call_then hAw.out ?_
  intro w1 hb1
  clear hAw
  go_wp2
  go_ret
  exact ⟨rfl, hb1⟩
end Go.Proofs.YtfklkplnbmhddaaDoor
