/-
  Contracts of gold's bytes: the reference's bytes (under way).
-/
import Derived.Test.YtjoghehefefmdaaGoldBytesB
import Derived.Laws.AppendOwn
import Derived.OwnWalk
import Derived.Below
namespace Go.Proofs.Ytjoghehefefmdaa
open Go.RowKit F Flow
set_option linter.unusedVariables false
attribute [local go_sem] eql_elem

theorem rsize_one (w : World) : Calls Try.prog 37 #[.int .i64 1] w fun e w' => e = .returned (.int .i64 8) ∧ Below w.heap.size w w' := by
  go_enter Try.func37, Try.ntmps37
  go_wp2
  go_ret
  exact ⟨rfl, Below.refl _ _⟩
theorem info_u8 : (Try.prog.info? 5).map (fun i => (i.zero, i.size, i.bytes)) = some (some (.int .u8 0), 1, 1) := by kernel_rfl
theorem grown_block {w w' : World} {row : Option Nat} (hg : w.grownBy w' row) {b : Nat} {u v : Value} {t : TypeId} (h : w.heap[b]? = some (.cells #[u, v] t (0, 0))) (hne : some b ≠ row) :
    w'.cell? ⟨b, 0, none⟩ = some u ∧ w'.cell? ⟨b, 1, none⟩ = some v := ⟨hg.cell (blk2 h).1 hne, hg.cell (blk2 h).2.1 hne⟩
theorem rb_step {w wr w' : World} {o : Obj} {u v : Value} {n : Nat} {xs : List Value} {e : TypeId} (hb : Below w.heap.size w wr) (c : wr.cell? ⟨w.heap.size, 0, none⟩ = some u) (hown : wr.ownsRow (w.heap.size + 1) e 1 v n xs)
    (hg : (wr.alloc o).grownBy w' v.ownBlock) : Below w.heap.size w w' ∧ w'.cell? ⟨w.heap.size, 0, none⟩ = some u := by
  have hr : ∀ k, v.ownBlock = some k → w.heap.size + 1 ≤ k := fun k hk => (hown.lt k hk).1
  have hbig := World.block_lt_of_cell? _ _ c
  have hs : wr.heap.size ≤ (wr.alloc o).heap.size := by simp
  refine ⟨(hb.alloc hb.size o).grown hg (Nat.le_trans hb.size hs) (fun k hk => Nat.le_trans (Nat.le_succ _) (hr k hk)), ?_⟩
  refine hg.cell (a := ⟨w.heap.size, 0, none⟩) ((World.cell?_alloc_lt wr o ⟨w.heap.size, 0, none⟩ hbig).trans c) ?_
  intro h
  have := hr w.heap.size h.symm
  omega
theorem news_one {W : World} {u : Value} {t : TypeId} (hu : u.cells = #[u]) : ∀ (j : Nat) (z : Value), [u][j]? = some z → (W.alloc (.cells #[u] t)).cell? (Addr.add ⟨W.heap.size, 0, none⟩ j) = some z := by
  intro j z h
  match j with
  | 0 => simp at h; subst h; simp [Addr.add]
  | j + 1 => simp at h
theorem owns_below {w w' : World} {base : Nat} {e : TypeId} {v : Value} {n : Nat} {xs : List Value} (h : w.ownsRow base e 1 v n xs) (hb : Below w.heap.size w w') : w'.ownsRow base e 1 v n xs := by
  refine ⟨h.1, ?_⟩
  rcases h.2 with hn | ⟨g, cap, cur, rfl, hbb, hgg, rest⟩
  · exact .inl hn
  · exact .inr ⟨g, cap, cur, rfl, hbb, keeps hb hgg, rest⟩
set_option maxHeartbeats 4000000 in
theorem rbytes_any (a x : Int) (a0 : 0 ≤ a) (a1 : a < 18446744073709551616) (hx : redu 1 a = x) (x0 : 0 ≤ x) (x1 : x < 18446744069414584321) (w : World) :
    Calls Try.prog 28 #[.int .i64 1, .agg #[.int .u64 a, .int .u64 0]] w fun e w' => ∃ v, e = .returned v ∧ Below w.heap.size w w' ∧ w'.ownsRow (w.heap.size + 1) 5 1 v 8 (cells8 x).toList := by
  have ho : ∀ w, Calls Try.prog 9 #[.int .i64 1, .agg #[.int .u64 a, .int .u64 0]] w fun e w' => e = .returned (.agg #[.int .u64 x, .int .u64 0]) ∧ Below w.heap.size w w' := by
    intro w
    have h := of_any 1 a a0 (by omega) w
    rwa [hx, lo_of_lt a0 (by omega), hi_of_lt a0 (by omega), lo_of_lt x0 (by omega), hi_of_lt x0 (by omega)] at h
  clear hx
  replace ho := Lib.hid ho
  go_enter Try.func28, Try.ntmps28
  go_wp2_with fail
  refine name_calls (fun w1 => Below w.heap.size w w1 ∧ w1.heap[w.heap.size]? = some (.cells #[.int .u64 a, .int .u64 0] 25 (0, 0))) ⟨(Below.refl _ _).alloc (Nat.le_refl _) _, alloc_at rfl⟩ ?_
  rintro w1 ⟨hb, k0⟩
  refine call_then (ho.out _) ?_
  intro w2 hw2
  replace hb := below_next hb hb.size hw2
  replace k0 := keeps hw2 k0
  clear hw2
  obtain ⟨a0, a1, a2, a3⟩ := blk2 k0
  go_wp2
  clear a0 a1 a2 a3
  refine name_wp (fun w3 => Below w.heap.size w w3 ∧ w3.heap[w.heap.size]? = some (.cells #[.int .u64 x, .int .u64 0] 25 (0, 0))) ⟨below_store2 hb (Nat.le_refl _), store2 k0⟩ ?_
  clear hb k0
  rintro w3 ⟨hb, k0⟩
  have c0 := (blk2 k0).1
  have hbig := lt_of_get k0
  clear k0
  have hown : w3.ownsRow (w.heap.size + 1) 5 1 (.slice none 0 0) 0 [] := World.ownsRow_nil _ _ _ _
  obtain ⟨i0, hi, hz0, hz1, hz2⟩ := info_parts info_u8
  refine wp_loop_rounds 9 ?_
  rw [rounds_succ]
  go_wp2_with fail
  refine call_then (rsize_one _) ?_
  intro w4 hw4
  have hbig := World.block_lt_of_cell? _ _ c0
  replace c0 := (hw4.cell hbig).trans c0
  replace hown := owns_below hown hw4
  replace hb := below_next hb hb.size hw4
  have hb4 : w.heap.size + 1 ≤ w4.heap.size := World.block_lt_of_cell? _ _ c0
  clear hw4 hbig
  go_wp2_with fail
  refine wp_loop_rounds 1 ?_
  rw [rounds_succ]
  go_wp2_with (at_builtin; refine wpList_append_own _ rfl _ _ 44 rfl (w.heap.size + 1) 5 i0 (.int .u8 0) 1 1 Try.underlying44 hi hz0 hz1 hz2 rfl (by decide) _ _ _ rfl (hown.alloc _) ⟨w4.heap.size, 0, none⟩ 1 1 [.int .u8 (x % 256)] rfl rfl (news_one rfl) (by simp [Value.oneCell']) (by decide) (by decide) (Nat.le_trans hb4 (by simp)) ?_; intro v1 w5 hown5 hg5 _; obtain ⟨hb5, c5⟩ := rb_step hb c0 hown hg5; clear hg5)
  replace hb := hb5
  replace c0 := c5
  replace hown := hown5
  clear hb5 c5 hown5
  rw [rounds_succ]
  go_wp2_with fail
  refine call_then (rsize_one _) ?_
  intro w4 hw4
  have hbig := World.block_lt_of_cell? _ _ c0
  replace c0 := (hw4.cell hbig).trans c0
  replace hown := owns_below hown hw4
  replace hb := below_next hb hb.size hw4
  have hb4 : w.heap.size + 1 ≤ w4.heap.size := World.block_lt_of_cell? _ _ c0
  clear hw4 hbig
  go_wp2_with fail
  refine wp_loop_rounds 2 ?_
  rw [rounds_succ]
  go_wp2
  rw [rounds_succ]
  go_wp2_with (at_builtin; refine wpList_append_own _ rfl _ _ 44 rfl (w.heap.size + 1) 5 i0 (.int .u8 0) 1 1 Try.underlying44 hi hz0 hz1 hz2 rfl (by decide) _ _ _ rfl (hown.alloc _) ⟨w4.heap.size, 0, none⟩ 1 1 [.int .u8 (x / 256 % 256)] rfl rfl (news_one rfl) (by simp [Value.oneCell']) (by decide) (by decide) (Nat.le_trans hb4 (by simp)) ?_; intro v2 w5 hown5 hg5 _; obtain ⟨hb5, c5⟩ := rb_step hb c0 hown hg5; clear hg5)
  replace hb := hb5
  replace c0 := c5
  replace hown := hown5
  clear hb5 c5 hown5
  rw [rounds_succ]
  go_wp2_with fail
  refine call_then (rsize_one _) ?_
  intro w4 hw4
  have hbig := World.block_lt_of_cell? _ _ c0
  replace c0 := (hw4.cell hbig).trans c0
  replace hown := owns_below hown hw4
  replace hb := below_next hb hb.size hw4
  have hb4 : w.heap.size + 1 ≤ w4.heap.size := World.block_lt_of_cell? _ _ c0
  clear hw4 hbig
  go_wp2_with fail
  refine wp_loop_rounds 3 ?_
  rw [rounds_succ]
  go_wp2
  rw [rounds_succ]
  go_wp2
  rw [rounds_succ]
  go_wp2_with (at_builtin; refine wpList_append_own _ rfl _ _ 44 rfl (w.heap.size + 1) 5 i0 (.int .u8 0) 1 1 Try.underlying44 hi hz0 hz1 hz2 rfl (by decide) _ _ _ rfl (hown.alloc _) ⟨w4.heap.size, 0, none⟩ 1 1 [.int .u8 (x / 256 / 256 % 256)] rfl rfl (news_one rfl) (by simp [Value.oneCell']) (by decide) (by decide) (Nat.le_trans hb4 (by simp)) ?_; intro v3 w5 hown5 hg5 _; obtain ⟨hb5, c5⟩ := rb_step hb c0 hown hg5; clear hg5)
  replace hb := hb5
  replace c0 := c5
  replace hown := hown5
  clear hb5 c5 hown5
  rw [rounds_succ]
  go_wp2_with fail
  refine call_then (rsize_one _) ?_
  intro w4 hw4
  have hbig := World.block_lt_of_cell? _ _ c0
  replace c0 := (hw4.cell hbig).trans c0
  replace hown := owns_below hown hw4
  replace hb := below_next hb hb.size hw4
  have hb4 : w.heap.size + 1 ≤ w4.heap.size := World.block_lt_of_cell? _ _ c0
  clear hw4 hbig
  go_wp2_with fail
  refine wp_loop_rounds 4 ?_
  rw [rounds_succ]
  go_wp2
  rw [rounds_succ]
  go_wp2
  rw [rounds_succ]
  go_wp2
  rw [rounds_succ]
  go_wp2_with (at_builtin; refine wpList_append_own _ rfl _ _ 44 rfl (w.heap.size + 1) 5 i0 (.int .u8 0) 1 1 Try.underlying44 hi hz0 hz1 hz2 rfl (by decide) _ _ _ rfl (hown.alloc _) ⟨w4.heap.size, 0, none⟩ 1 1 [.int .u8 (x / 256 / 256 / 256 % 256)] rfl rfl (news_one rfl) (by simp [Value.oneCell']) (by decide) (by decide) (Nat.le_trans hb4 (by simp)) ?_; intro v4 w5 hown5 hg5 _; obtain ⟨hb5, c5⟩ := rb_step hb c0 hown hg5; clear hg5)
  replace hb := hb5
  replace c0 := c5
  replace hown := hown5
  clear hb5 c5 hown5
  rw [rounds_succ]
  go_wp2_with fail
  refine call_then (rsize_one _) ?_
  intro w4 hw4
  have hbig := World.block_lt_of_cell? _ _ c0
  replace c0 := (hw4.cell hbig).trans c0
  replace hown := owns_below hown hw4
  replace hb := below_next hb hb.size hw4
  have hb4 : w.heap.size + 1 ≤ w4.heap.size := World.block_lt_of_cell? _ _ c0
  clear hw4 hbig
  go_wp2_with fail
  refine wp_loop_rounds 5 ?_
  rw [rounds_succ]
  go_wp2
  rw [rounds_succ]
  go_wp2
  rw [rounds_succ]
  go_wp2
  rw [rounds_succ]
  go_wp2
  rw [rounds_succ]
  go_wp2_with (at_builtin; refine wpList_append_own _ rfl _ _ 44 rfl (w.heap.size + 1) 5 i0 (.int .u8 0) 1 1 Try.underlying44 hi hz0 hz1 hz2 rfl (by decide) _ _ _ rfl (hown.alloc _) ⟨w4.heap.size, 0, none⟩ 1 1 [.int .u8 (x / 256 / 256 / 256 / 256 % 256)] rfl rfl (news_one rfl) (by simp [Value.oneCell']) (by decide) (by decide) (Nat.le_trans hb4 (by simp)) ?_; intro v5 w5 hown5 hg5 _; obtain ⟨hb5, c5⟩ := rb_step hb c0 hown hg5; clear hg5)
  replace hb := hb5
  replace c0 := c5
  replace hown := hown5
  clear hb5 c5 hown5
  rw [rounds_succ]
  go_wp2_with fail
  refine call_then (rsize_one _) ?_
  intro w4 hw4
  have hbig := World.block_lt_of_cell? _ _ c0
  replace c0 := (hw4.cell hbig).trans c0
  replace hown := owns_below hown hw4
  replace hb := below_next hb hb.size hw4
  have hb4 : w.heap.size + 1 ≤ w4.heap.size := World.block_lt_of_cell? _ _ c0
  clear hw4 hbig
  go_wp2_with fail
  refine wp_loop_rounds 6 ?_
  rw [rounds_succ]
  go_wp2
  rw [rounds_succ]
  go_wp2
  rw [rounds_succ]
  go_wp2
  rw [rounds_succ]
  go_wp2
  rw [rounds_succ]
  go_wp2
  rw [rounds_succ]
  go_wp2_with (at_builtin; refine wpList_append_own _ rfl _ _ 44 rfl (w.heap.size + 1) 5 i0 (.int .u8 0) 1 1 Try.underlying44 hi hz0 hz1 hz2 rfl (by decide) _ _ _ rfl (hown.alloc _) ⟨w4.heap.size, 0, none⟩ 1 1 [.int .u8 (x / 256 / 256 / 256 / 256 / 256 % 256)] rfl rfl (news_one rfl) (by simp [Value.oneCell']) (by decide) (by decide) (Nat.le_trans hb4 (by simp)) ?_; intro v6 w5 hown5 hg5 _; obtain ⟨hb5, c5⟩ := rb_step hb c0 hown hg5; clear hg5)
  replace hb := hb5
  replace c0 := c5
  replace hown := hown5
  clear hb5 c5 hown5
  rw [rounds_succ]
  go_wp2_with fail
  refine call_then (rsize_one _) ?_
  intro w4 hw4
  have hbig := World.block_lt_of_cell? _ _ c0
  replace c0 := (hw4.cell hbig).trans c0
  replace hown := owns_below hown hw4
  replace hb := below_next hb hb.size hw4
  have hb4 : w.heap.size + 1 ≤ w4.heap.size := World.block_lt_of_cell? _ _ c0
  clear hw4 hbig
  go_wp2_with fail
  refine wp_loop_rounds 7 ?_
  rw [rounds_succ]
  go_wp2
  rw [rounds_succ]
  go_wp2
  rw [rounds_succ]
  go_wp2
  rw [rounds_succ]
  go_wp2
  rw [rounds_succ]
  go_wp2
  rw [rounds_succ]
  go_wp2
  rw [rounds_succ]
  go_wp2_with (at_builtin; refine wpList_append_own _ rfl _ _ 44 rfl (w.heap.size + 1) 5 i0 (.int .u8 0) 1 1 Try.underlying44 hi hz0 hz1 hz2 rfl (by decide) _ _ _ rfl (hown.alloc _) ⟨w4.heap.size, 0, none⟩ 1 1 [.int .u8 (x / 256 / 256 / 256 / 256 / 256 / 256 % 256)] rfl rfl (news_one rfl) (by simp [Value.oneCell']) (by decide) (by decide) (Nat.le_trans hb4 (by simp)) ?_; intro v7 w5 hown5 hg5 _; obtain ⟨hb5, c5⟩ := rb_step hb c0 hown hg5; clear hg5)
  replace hb := hb5
  replace c0 := c5
  replace hown := hown5
  clear hb5 c5 hown5
  rw [rounds_succ]
  go_wp2_with fail
  refine call_then (rsize_one _) ?_
  intro w4 hw4
  have hbig := World.block_lt_of_cell? _ _ c0
  replace c0 := (hw4.cell hbig).trans c0
  replace hown := owns_below hown hw4
  replace hb := below_next hb hb.size hw4
  have hb4 : w.heap.size + 1 ≤ w4.heap.size := World.block_lt_of_cell? _ _ c0
  clear hw4 hbig
  go_wp2_with fail
  refine wp_loop_rounds 8 ?_
  rw [rounds_succ]
  go_wp2
  rw [rounds_succ]
  go_wp2
  rw [rounds_succ]
  go_wp2
  rw [rounds_succ]
  go_wp2
  rw [rounds_succ]
  go_wp2
  rw [rounds_succ]
  go_wp2
  rw [rounds_succ]
  go_wp2
  rw [rounds_succ]
  go_wp2_with (at_builtin; refine wpList_append_own _ rfl _ _ 44 rfl (w.heap.size + 1) 5 i0 (.int .u8 0) 1 1 Try.underlying44 hi hz0 hz1 hz2 rfl (by decide) _ _ _ rfl (hown.alloc _) ⟨w4.heap.size, 0, none⟩ 1 1 [.int .u8 (x / 256 / 256 / 256 / 256 / 256 / 256 / 256 % 256)] rfl rfl (news_one rfl) (by simp [Value.oneCell']) (by decide) (by decide) (Nat.le_trans hb4 (by simp)) ?_; intro v8 w5 hown5 hg5 _; obtain ⟨hb5, c5⟩ := rb_step hb c0 hown hg5; clear hg5)
  replace hb := hb5
  replace c0 := c5
  replace hown := hown5
  clear hb5 c5 hown5
  rw [rounds_succ]
  go_wp2_with fail
  refine call_then (rsize_one _) ?_
  intro w4 hw4
  replace hown := owns_below hown hw4
  replace hb := below_next hb hb.size hw4
  clear hw4 c0
  go_wp2
  go_ret
  have e2 : x / 65536 % 256 = x / 256 / 256 % 256 := by omega
  have e3 : x / 16777216 % 256 = x / 256 / 256 / 256 % 256 := by omega
  have e4 : x / 4294967296 % 256 = x / 256 / 256 / 256 / 256 % 256 := by omega
  have e5 : x / 1099511627776 % 256 = x / 256 / 256 / 256 / 256 / 256 % 256 := by omega
  have e6 : x / 281474976710656 % 256 = x / 256 / 256 / 256 / 256 / 256 / 256 % 256 := by omega
  have e7 : x / 72057594037927936 % 256 = x / 256 / 256 / 256 / 256 / 256 / 256 / 256 % 256 := by omega
  refine ⟨v8, rfl, hb, ?_⟩
  unfold cells8
  rw [e2, e3, e4, e5, e6, e7]
  exact hown
end Go.Proofs.Ytjoghehefefmdaa
