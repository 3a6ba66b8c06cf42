/-
  A client: a tick where both were answered.
-/
import Derived.Test.YtehjfilnfpkjkaaUpN
namespace Go.Proofs.Ytehjfilnfpkjkaa
open Go.RowKit Flow
set_option linter.unusedVariables false
set_option linter.unusedSimpArgs false

set_option maxRecDepth 20000 in
set_option maxHeartbeats 8000000 in
theorem tick_both (q : Nat) (m0 m1 : Mg) (id : List Int) (t : Int) (ps s0 s1 : List Int) (k0 k1 f wt nx sent now : Int) (hf : 0 ≤ f) (hn : now < 18446744073709551616)
    (hd : dueB f wt now = true) (w : World) (h : Cl q m0 m1 id t ps s0 s1 true true k0 k1 f wt nx sent w) :
    Calls Try.prog 9 #[.pointer (some ⟨q, 0, none⟩), .int .u64 now] w fun e w' => e = .returned (.slice none 0 0) ∧ Below w.heap.size w w' := by
  obtain ⟨c44, c45, c48, c49, _, _, _, _, _, _⟩ := cl_cells h.at'
  have hdue := due_any q f wt now hf hn w c48 c49
  rw [hd] at hdue
  replace hdue := Lib.hid hdue
  have hone0 := Lib.hid (@up22_one (some ⟨m0.g, 0, none⟩) 1 m0.c)
  have hone1 := Lib.hid (@up22_one (some ⟨m1.g, 0, none⟩) 1 m1.c)
  rw [show Value.slice (some ⟨m0.g, 0, none⟩) 1 m0.c = m0.val from rfl] at hone0
  rw [show Value.slice (some ⟨m1.g, 0, none⟩) 1 m1.c = m1.val from rfl] at hone1
  have hat := h.at'
  clear h
  have hu := Lib.hid (fun (w : World) (hat : w.heap[q]? = some (.cells (up22 m0.val ++ up22 m1.val ++ clTail true true k0 k1 f wt nx sent).toArray 59 (0, 0))) => show w.rangeAt q 0 (up22 m0.val ++ up22 m1.val) from fun j u hj => At0.of_block hat j u ((List.getElem?_append_left (List.getElem?_eq_some_iff.1 hj).1).trans hj))
  obtain ⟨E0, hE0⟩ : ∃ E0, m0.val = E0 := ⟨_, rfl⟩
  obtain ⟨E1, hE1⟩ : ∃ E1, m1.val = E1 := ⟨_, rfl⟩
  rw [hE0] at hone0 hu hat
  rw [hE1] at hone1 hu hat
  clear hE0 hE1
  have hix0 : ∀ w, (Instr.index 55 (.agg (up22 E0 ++ up22 E1).toArray) (.int .i64 0)).run Try.prog w = .ok (.agg (up22 E0).toArray) w := fun w => by kernel_rfl
  have hix1 : ∀ w, (Instr.index 55 (.agg (up22 E0 ++ up22 E1).toArray) (.int .i64 1)).run Try.prog w = .ok (.agg (up22 E1).toArray) w := fun w => by kernel_rfl
  clear c44 c45 c48 c49 hd
  obtain ⟨B, hB⟩ : ∃ B, w.heap.size = B := ⟨_, rfl⟩
  rw [hB]
  replace hB := Lib.hid hB
  go_enter Try.func9, Try.ntmps9
  go_wp2_with fail
  refine call_then hdue.out ?_
  intro w2 hv
  have hb : Below B w w2 := by rw [← hB.out]; exact hv
  replace hat := keeps hv hat
  clear hv hdue
  have hme := hu.out _ hat
  go_wp2_with (first | (refine list_load_mid _ _ _ 0 _ _ rfl rfl rfl hme Try.underlying55 rfl (by kernel_rfl) ?_))
  clear hme
  go_loopw [22, 5] (fun i l wr => ∃ j : Nat, i = .int .i64 (j : Int) ∧ j ≤ 2 ∧ l = .slice none 0 0 ∧ Below B w wr ∧ wr.heap[q]? = some (.cells (up22 E0 ++ up22 E1 ++ clTail true true k0 k1 f wt nx sent).toArray 59 (0, 0))) (fun i _ _ => 2 - (intOf i).toNat)
  case atStart => exact ⟨0, rfl, by decide, rfl, hb, hat⟩
  case round =>
    clear hat hb
    obtain ⟨j, rfl, hj, rfl, hb, hat⟩ := hrel
    obtain rfl | rfl | rfl : j = 0 ∨ j = 1 ∨ j = 2 := by omega
    · skip
      go_upto_region 7 with (first
        | (refine list_store_whole _ _ _ _ (up22 E0) zup 27 rfl rfl rfl rfl (alloc_at rfl) rfl (by kernel_rfl) hone0.out ?_; intro w5 hbut ks))
      have hvv : Below wr.heap.size wr w5 := hbut.below ((Below.refl wr.heap.size wr).alloc (Nat.le_refl _) _) (Nat.le_refl _) (by simp)
      replace hb := below_next hb (by have := hb.size; have := hB.out; omega) hvv
      replace hat := keeps hvv hat
      clear hbut hvv ks
      obtain ⟨c44, c45, _⟩ := cl_cells hat
      generalize wr.heap.size = qx at *
      go_wp2
      exact ⟨⟨1, rfl, by decide, rfl, hb, hat⟩, by decide⟩
    · skip
      go_upto_region 7 with (first
        | (refine list_store_whole _ _ _ _ (up22 E1) zup 27 rfl rfl rfl rfl (alloc_at rfl) rfl (by kernel_rfl) hone1.out ?_; intro w5 hbut ks))
      have hvv : Below wr.heap.size wr w5 := hbut.below ((Below.refl wr.heap.size wr).alloc (Nat.le_refl _) _) (Nat.le_refl _) (by simp)
      replace hb := below_next hb (by have := hb.size; have := hB.out; omega) hvv
      replace hat := keeps hvv hat
      clear hbut hvv ks
      obtain ⟨c44, c45, _⟩ := cl_cells hat
      generalize wr.heap.size = qx at *
      go_wp2
      exact ⟨⟨2, rfl, by decide, rfl, hb, hat⟩, by decide⟩
    · go_wp2
      go_ret
      exact ⟨rfl, hb⟩
end Go.Proofs.Ytehjfilnfpkjkaa
