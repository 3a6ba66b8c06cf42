/-
  Windows: where one stands, in a book of none or of one.
-/
import Derived.Test.YtpojhomccmfffaaDoorBuA
namespace Go.Proofs.YtpojhomccmfffaaDoor
open Go.RowKit Flow F
set_option linter.unusedVariables false
set_option linter.unusedSimpArgs false

/-- A window's cells: its beginning, its total, whether it is closed. -/
def bks (st : Int) (S : Value) (m : Int) (c : Nat → Nat) (cl : Bool) : List Value := .int .u64 st :: S :: .int .i64 m :: (arr8 c 16 ++ [.bool cl])
def noBk : List Value := bks 0 (.slice none 0 0) 0 (fun _ => 0) false
theorem bks_len (st : Int) (S : Value) (m : Int) (c : Nat → Nat) (cl : Bool) : (bks st S m c cl).length = 20 := by simp [bks, arr8_len]
theorem one_bks {A : Option Addr} {n cp : Nat} (st m : Int) (c : Nat → Nat) (cl : Bool) : ∀ u ∈ bks st (.slice A n cp) m c cl, u.oneCell' = true := fun u hu => by
  simp only [bks, List.mem_cons, List.mem_append, List.not_mem_nil, or_false] at hu
  rcases hu with rfl | rfl | rfl | hu | rfl
  · rfl
  · rfl
  · rfl
  · exact one_arr8 c 16 u hu
  · rfl
theorem bks_tot (st : Int) (S : Value) (m : Int) (c : Nat → Nat) (cl : Bool) : ((bks st S m c cl).drop 1).take (tot S m c).length = tot S m c := by
  rw [tot_len]
  show (S :: .int .i64 m :: (arr8 c 16 ++ [.bool cl])).take 18 = _
  rw [List.take_succ_cons, List.take_succ_cons, List.take_append_of_le_length (by rw [arr8_len]; decide), List.take_of_length_le (by rw [arr8_len]; decide)]
  rfl
theorem bks_closed (st : Int) (S : Value) (m : Int) (c : Nat → Nat) (cl : Bool) : (bks st S m c cl)[19]? = some (.bool cl) := by
  show (arr8 c 16 ++ [Value.bool cl])[16]? = _
  rw [List.getElem?_append_right (by rw [arr8_len]; decide), arr8_len]
  rfl
theorem info_bucket : ((Tryd.prog).info? 95).map (·.size) = some 20 := by kernel_rfl
def cmpU (a b : Int) : Int := if a < b then -1 else if a > b then 1 else 0
set_option maxHeartbeats 2000000 in
theorem nan_any (a : Int) (w : World) : Calls Tryd.prog 135 #[.int .u64 a] w fun e w' => e = .returned (.bool false) ∧ Below w.heap.size w w' := by
  have h : (a != a) = false := by simp
  go_enter Tryd.func135, Tryd.ntmps135
  go_wp2
  go_ret
  exact ⟨rfl, Below.refl _ _⟩
set_option maxHeartbeats 2000000 in
theorem cmpU_any (a b : Int) (w : World) : Calls Tryd.prog 115 #[.int .u64 a, .int .u64 b] w fun e w' => e = .returned (.int .i64 (cmpU a b)) ∧ Below w.heap.size w w' := by
  have hN := Lib.hid (fun a w => nan_any a w)
  unfold cmpU
  by_cases h1 : a < b
  · rw [if_pos h1]
    have b1 : decide (a < b) = true := by simpa using h1
    go_enter Tryd.func115, Tryd.ntmps115
    go_wp2_with fail
    refine call_then (hN.out _ _) ?_
    intro w1 hb
    go_wp2_with fail
    refine call_then (hN.out _ _) ?_
    intro w2 hb2
    replace hb := below_next hb hb.size hb2
    go_wp2
    go_ret
    exact ⟨rfl, hb⟩
  · rw [if_neg h1]
    have b1 : decide (a < b) = false := by simpa using h1
    by_cases h2 : a > b
    · rw [if_pos h2]
      have b2 : decide (a > b) = true := by simpa using h2
      go_enter Tryd.func115, Tryd.ntmps115
      go_wp2_with fail
      refine call_then (hN.out _ _) ?_
      intro w1 hb
      go_wp2_with fail
      refine call_then (hN.out _ _) ?_
      intro w2 hb2
      replace hb := below_next hb hb.size hb2
      go_wp2
      go_ret
      exact ⟨rfl, hb⟩
    · rw [if_neg h2]
      have b2 : decide (a > b) = false := by simpa using h2
      go_enter Tryd.func115, Tryd.ntmps115
      go_wp2_with fail
      refine call_then (hN.out _ _) ?_
      intro w1 hb
      go_wp2_with fail
      refine call_then (hN.out _ _) ?_
      intro w2 hb2
      replace hb := below_next hb hb.size hb2
      go_wp2
      go_ret
      exact ⟨rfl, hb⟩
set_option maxRecDepth 20000 in
set_option maxHeartbeats 2000000 in
theorem bfindc_any (st : Int) (S : Value) (m : Int) (c : Nat → Nat) (cl : Bool) (y : Int) (w : World) : Calls Tryd.prog 114 #[.agg (bks st S m c cl).toArray, .int .u64 y] w fun e w' => e = .returned (.int .i64 (cmpU st y)) ∧ Below w.heap.size w w' := by
  have hC := Lib.hid (fun w => cmpU_any st y w)
  go_enter Tryd.func114, Tryd.ntmps114
  go_upto_region 1 with (fail)
  refine name_wp (fun w1 => Below w.heap.size w w1 ∧ w1.heap[w.heap.size]? = some (.cells (bks st S m c cl).toArray 95 (0, 0))) ⟨(Below.refl _ _).alloc (Nat.le_refl _) _, alloc_at rfl⟩ ?_
  rintro w1 ⟨hb, k0⟩
  have a0 := At0.of_block k0 0 (.int .u64 st) rfl
  simp only [Nat.zero_add] at a0
  clear k0
  go_wp2_with fail
  refine call_then (hC.out _) ?_
  intro w2 hv
  replace hb := below_next hb hb.size hv
  go_wp2
  go_ret
  exact ⟨rfl, hb⟩
set_option maxHeartbeats 2000000 in
theorem bsearch_nil (y : Int) (w : World) : Calls Tryd.prog 113 #[.slice none 0 0, .int .u64 y, .func (.func 114) #[] #[]] w fun e w' => e = .returned (.tuple #[.int .i64 0, .bool false]) ∧ Below w.heap.size w w' := by
  go_enter Tryd.func113, Tryd.ntmps113
  go_wp2
  refine wp_loop_rounds 1 ?_
  rw [rounds_succ]
  go_wp2
  refine bodyPost_ret (v := .tuple #[.int .i64 0, .bool false]) (by simp [results, Tryd.results113, go_sem]) rfl ⟨rfl, Below.refl _ _⟩
end Go.Proofs.YtpojhomccmfffaaDoor
