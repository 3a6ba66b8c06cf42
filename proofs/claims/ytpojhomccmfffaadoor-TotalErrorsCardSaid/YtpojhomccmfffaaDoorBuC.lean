/-
  Windows: a book of none, or of one: where a window stands, which it is, whether a report may be added.
-/
import Derived.Test.YtpojhomccmfffaaDoorBuB
namespace Go.Proofs.YtpojhomccmfffaaDoor
open Go.RowKit Flow F
set_option linter.unusedVariables false
set_option linter.unusedSimpArgs false

theorem cmpU_same (a : Int) : cmpU a a = 0 := by simp [cmpU]
set_option maxRecDepth 20000 in
set_option maxHeartbeats 4000000 in
theorem bsearch_hit (g cp : Nat) (st : Int) (S : Value) (m : Int) (c : Nat → Nat) (cl : Bool) (w : World) (hg : At0 w g (bks st S m c cl)) : Calls Tryd.prog 113 #[.slice (some ⟨g, 0, none⟩) 1 cp, .int .u64 st, .func (.func 114) #[] #[]] w fun e w' => e = .returned (.tuple #[.int .i64 0, .bool true]) ∧ Below w.heap.size w w' := by
  have hC := fun w => bfindc_any st S m c cl st w
  rw [cmpU_same] at hC
  have hl := bks_len st S m c cl
  generalize bks st S m c cl = cs at *
  replace hC := Lib.hid hC
  replace hl := Lib.hid hl
  go_enter Tryd.func113, Tryd.ntmps113
  go_wp2
  refine wp_loop_rounds 2 ?_
  rw [rounds_succ]
  go_wp2_with (first
    | (refine list_load_mid _ _ _ 0 _ _ rfl rfl rfl hg Tryd.underlying95 rfl (by rw [hl.out]; kernel_rfl) ?_))
  refine call_then (hC.out _) ?_
  intro w2 hb
  replace hg := hg.up hb
  go_wp2
  rw [rounds_succ]
  go_wp2_with (first
    | (refine list_load_mid _ _ _ 0 _ _ rfl rfl rfl hg Tryd.underlying95 rfl (by rw [hl.out]; kernel_rfl) ?_))
  refine call_then (hC.out _) ?_
  intro w3 hv
  replace hb := below_next hb hb.size hv
  go_wp2
  refine bodyPost_ret (v := .tuple #[.int .i64 0, .bool true]) (by simp [results, Tryd.results113, go_sem]) rfl ⟨rfl, hb⟩
/-- A book's cells, one by one. -/
theorem book_cells {q : Nat} {x : Ci} {p : Int} {s : ByteArray} {W mn mx : Int} {L : Value} {w : World} {t : TypeId} (h : w.heap[q]? = some (.cells (book x p s W mn mx L).toArray t (0, 0))) :
    w.rangeAt q 0 (tcl x p s) ∧ w.rangeAt q 8 (rul W mn mx) ∧ w.cell? ⟨q, 11, none⟩ = some L ∧ w.cell? ⟨q, 10, none⟩ = some (.int .i64 mx) ∧ w.frozen? ⟨q, 11, none⟩ = false := by
  have g := At0.of_block h
  have a := g 11 L rfl
  have b := g 10 (.int .i64 mx) rfl
  simp only [Nat.zero_add] at a b
  exact ⟨sub_range g 0 _ rfl, sub_range g 8 _ rfl, a, b, by simp [World.frozen?, h]⟩
set_option maxHeartbeats 2000000 in
theorem bfind_nil (q : Nat) (x : Ci) (p : Int) (s : ByteArray) (W mn mx : Int) (y : Int) (w : World) (hq : w.heap[q]? = some (.cells (book x p s W mn mx (.slice none 0 0)).toArray 143 (0, 0))) : Calls Tryd.prog 78 #[.pointer (some ⟨q, 0, none⟩), .int .u64 y] w fun e w' => e = .returned (.tuple #[.int .i64 0, .bool false]) ∧ Below w.heap.size w w' := by
  obtain ⟨-, -, c11, -, -⟩ := book_cells hq
  have hS := Lib.hid (fun w => bsearch_nil y w)
  clear hq
  go_enter Tryd.func78, Tryd.ntmps78
  go_wp2_with fail
  refine call_then (hS.out _) ?_
  intro w2 hb
  go_wp2
  refine bodyPost_ret (v := .tuple #[.int .i64 0, .bool false]) (by simp [results, Tryd.results78, go_sem]) rfl ⟨rfl, hb⟩
set_option maxHeartbeats 2000000 in
theorem bfind_hit (q : Nat) (x : Ci) (p : Int) (s : ByteArray) (W mn mx : Int) (g cp : Nat) (st : Int) (S : Value) (m : Int) (c : Nat → Nat) (cl : Bool) (w : World) (hq : w.heap[q]? = some (.cells (book x p s W mn mx (.slice (some ⟨g, 0, none⟩) 1 cp)).toArray 143 (0, 0))) (hg : At0 w g (bks st S m c cl)) : Calls Tryd.prog 78 #[.pointer (some ⟨q, 0, none⟩), .int .u64 st] w fun e w' => e = .returned (.tuple #[.int .i64 0, .bool true]) ∧ Below w.heap.size w w' := by
  obtain ⟨-, -, c11, -, -⟩ := book_cells hq
  have hS := Lib.hid (bsearch_hit g cp st S m c cl w hg)
  clear hq hg
  go_enter Tryd.func78, Tryd.ntmps78
  go_wp2_with fail
  refine call_then (hS.out) ?_
  intro w2 hb
  go_wp2
  refine bodyPost_ret (v := .tuple #[.int .i64 0, .bool true]) (by simp [results, Tryd.results78, go_sem]) rfl ⟨rfl, hb⟩
theorem built_bucketL (st : Int) (A : Option Addr) (n cp : Nat) (m : Int) (a0 a1 a2 a3 a4 a5 a6 a7 a8 a9 a10 a11 a12 a13 a14 a15 : Value) : Tryd.prog.built 95 [(0, .int .u64 st), (1, .agg #[.slice A n cp, .int .i64 m, a0, a1, a2, a3, a4, a5, a6, a7, a8, a9, a10, a11, a12, a13, a14, a15])] = some #[.int .u64 st, .slice A n cp, .int .i64 m, a0, a1, a2, a3, a4, a5, a6, a7, a8, a9, a10, a11, a12, a13, a14, a15, .bool false] := by kernel_rfl
theorem built_bucket16 (st : Int) (A : Option Addr) (n cp : Nat) (m : Int) (l : List Value) (hl : l.length = 16) : Tryd.prog.built 95 [(0, .int .u64 st), (1, .agg (Value.slice A n cp :: .int .i64 m :: l).toArray)] = some (Value.int .u64 st :: .slice A n cp :: .int .i64 m :: (l ++ [.bool false])).toArray := by
  match l, hl with
  | [a0, a1, a2, a3, a4, a5, a6, a7, a8, a9, a10, a11, a12, a13, a14, a15], _ => exact built_bucketL st A n cp m a0 a1 a2 a3 a4 a5 a6 a7 a8 a9 a10 a11 a12 a13 a14 a15
theorem built_bucket (st : Int) (A : Option Addr) (n cp : Nat) (m : Int) (c : Nat → Nat) : Tryd.prog.built 95 [(0, .int .u64 st), (1, .agg (tot (.slice A n cp) m c).toArray)] = some (bks st (.slice A n cp) m c false).toArray := built_bucket16 st A n cp m _ (arr8_len c 16)
set_option maxRecDepth 20000 in
set_option maxHeartbeats 4000000 in
theorem window_nil (q : Nat) (x : Ci) (p : Int) (s : ByteArray) (h : TGood x p s) (W mn mx now : Int) (n : Nat) (hn : x.outN = n) (w0 : 0 ≤ W) (w1 : W < 18446744073709551616) (n0 : 0 ≤ now) (n1 : now < 18446744073709551616) (w : World) (hq : w.heap[q]? = some (.cells (book x p s W mn mx (.slice none 0 0)).toArray 143 (0, 0))) :
    Calls Tryd.prog 80 #[.pointer (some ⟨q, 0, none⟩), .int .u64 now] w fun e w' => ∃ g, e = .returned (.agg (bks (startF W now) (.slice (some ⟨g, 0, none⟩) n n) 0 (fun _ => 0) false).toArray) ∧ Below w.heap.size w w' ∧ w.heap.size ≤ g ∧ Row w' g (List.replicate n 0) := by
  have hS := Lib.hid (fun w => start_any W mn mx now w0 w1 n0 n1 w)
  have hF := Lib.hid (fun w h => bfind_nil q x p s W mn mx (startF W now) w h)
  have hN := Lib.hid (fun w => (tnew_ok x p s h n hn (by rw [← hn]; exact out_le4 h.good) w : Calls Tryd.prog 19 #[.agg (tcl x p s).toArray] w _))
  generalize startF W now = st at *
  clear h hn w0 w1 n0 n1
  go_enter Tryd.func80, Tryd.ntmps80
  go_upto_region 1 with (fail)
  have hql := lt_of_get hq
  refine name_wp (fun w1 => Below w.heap.size w w1 ∧ w1.heap[q]? = some (.cells (book x p s W mn mx (.slice none 0 0)).toArray 143 (0, 0)) ∧ w1.heap[w.heap.size]? = some (.cells noBk.toArray 95 (0, 0)))
    ⟨(Below.refl _ _).alloc (Nat.le_refl _) _, alloc_keeps hq, alloc_at rfl⟩ ?_
  clear hq
  rintro w1 ⟨hb, hq, k0⟩
  obtain ⟨-, hr, -, -, -⟩ := book_cells hq
  go_wp2_with (first
    | (refine list_load_mid _ _ _ 8 _ _ rfl rfl rfl hr Tryd.underlying80 rfl (by kernel_rfl) ?_))
  refine call_then (hS.out _) ?_
  intro w2 hv
  replace hb := below_next hb hb.size hv
  replace hq := keeps hv hq
  replace k0 := keeps hv k0
  clear hv hr hS
  go_wp2_with fail
  refine call_then (hF.out _ hq) ?_
  intro w3 hv
  replace hb := below_next hb hb.size hv
  replace hq := keeps hv hq
  replace k0 := keeps hv k0
  clear hv hF
  obtain ⟨ht, -, -, -, -⟩ := book_cells hq
  go_wp2_with (first
    | (refine list_load_mid _ _ _ 0 _ _ rfl rfl rfl ht Tryd.underlying33 rfl (by kernel_rfl) ?_))
  refine (hN.out _).mono ?_
  rintro e w4 ⟨g, rfl, hv, hg, hrow⟩
  have hg0 := Nat.lt_of_lt_of_le (lt_of_get k0) hg
  replace hb := below_next hb hb.size hv
  replace k0 := keeps hv k0
  clear hv hN ht hq
  unfold totv
  have hone := Lib.hid (one_bks (A := some ⟨g, 0, none⟩) (n := n) (cp := n) st 0 (fun _ => 0) false)
  go_wp2_with (first
    | (refine list_build2 _ _ _ _ _ _ _ _ (built_bucket st (some ⟨g, 0, none⟩) n n 0 (fun _ => 0)) rfl rfl rfl rfl ?_)
    | (refine list_store_whole _ _ _ _ (bks st (.slice (some ⟨g, 0, none⟩) n n) 0 (fun _ => 0) false) noBk 95 rfl rfl rfl rfl k0 rfl (by kernel_rfl) hone.out ?_; intro w7 hbut kr))
  have hbe := hbut.below hb (Nat.le_refl _) hb.size
  have hlv := loadVar_whole (P := Tryd.prog) (ty := 95) _ (At0.of_block kr) Tryd.underlying95 rfl (by kernel_rfl)
  exact bodyPost_ret (v := .agg (bks st (.slice (some ⟨g, 0, none⟩) n n) 0 (fun _ => 0) false).toArray) (results_cellT Tryd.results80 rfl hlv) rfl ⟨_, rfl, hbe, by omega, (hbut.block _ (lt_of_get hrow) (by omega)).trans hrow⟩
end Go.Proofs.YtpojhomccmfffaaDoor
