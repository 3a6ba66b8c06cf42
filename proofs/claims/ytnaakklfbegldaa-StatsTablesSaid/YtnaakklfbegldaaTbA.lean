/-
  A table of rows: rows copied; nil tables.
-/
import Derived.Test.YtnaakklfbegldaaStS
import Derived.Test.YtnaakklfbegldaaSegS
import Derived.Test.YtnaakklfbegldaaAppend
import Derived.Laws.MakeOwn
import Derived.Lib.LazyBuf
import Derived.OwnWalk
import Derived.Deep.DeepCutAuto
import Derived.Deep.CutBlock
namespace Go.Proofs.Ytnaakklfbegldaa
open Go.RowKit Flow
set_option linter.unusedVariables false
set_option linter.unusedSimpArgs false

theorem blk3t {w : World} {p : Nat} {t : TypeId} {u v x : Value} (h : w.heap[p]? = some (.cells #[u, v, x] t (0, 0))) :
    w.cell? ⟨p, 0, none⟩ = some u ∧ w.cell? ⟨p, 1, none⟩ = some v ∧ w.cell? ⟨p, 2, none⟩ = some x ∧ w.frozen? ⟨p, 0, none⟩ = false ∧ w.frozen? ⟨p, 1, none⟩ = false ∧ w.frozen? ⟨p, 2, none⟩ = false := by
  refine ⟨?_, ?_, ?_, ?_, ?_, ?_⟩ <;> simp [World.cell?, World.frozen?, h]
theorem info_f64t : (Try.prog.info? 35).map (fun i => (i.zero.map (fun z => z.cells.size), i.size, i.bytes)) = some (some 1, 1, 8) := by kernel_rfl
theorem info_row : (Try.prog.info? 29).map (fun i => (i.zero.map (fun z => z.cells.size), i.size, i.bytes)) = some (some 3, 3, 40) := by kernel_rfl
theorem info_parts5 {P : Program} {t : TypeId} {s n b : Nat} (h : (P.info? t).map (fun i => (i.zero.map (fun z => z.cells.size), i.size, i.bytes)) = some (some s, n, b)) : ∃ i z, P.info? t = some i ∧ i.zero = some z ∧ i.size = n ∧ i.bytes = b ∧ z.cells.size = s := by
  cases hi : P.info? t with
  | none => rw [hi] at h; cases h
  | some i =>
    rw [hi] at h
    simp only [Option.map_some, Option.some.injEq, Prod.mk.injEq] at h
    obtain ⟨h1, h2, h3⟩ := h
    cases hz : i.zero with
    | none => rw [hz] at h1; cases h1
    | some z => rw [hz] at h1; exact ⟨i, z, rfl, hz, h2, h3, by simpa using h1⟩
theorem below_grows {w w' : World} (h : Below w.heap.size w w') (r : Option Nat) : w.grownBy w' r := ⟨h.os, h.tape, h.output, h.size, fun k hk _ => h.block k hk⟩
theorem owns_upn {w w' : World} {base n size : Nat} {e : TypeId} {v : Value} {xs : List Value} (h : w.ownsRow base e size v n xs) (hb : Below w.heap.size w w') : w'.ownsRow base e size v n xs :=
  h.kept (below_grows hb none) (by cases v.ownBlock with
    | none => exact .inl rfl
    | some k => exact .inr (by simp))
theorem owns_mono1 {w : World} {base base' n size : Nat} {e : TypeId} {v : Value} {xs : List Value} (h : w.ownsRow base e size v n xs) (hb : base' ≤ base) : w.ownsRow base' e size v n xs := by
  refine ⟨h.1, ?_⟩
  rcases h.2 with hn | ⟨g, cap, cur, rfl, hbb, rest⟩
  · exact .inl hn
  · exact .inr ⟨g, cap, cur, rfl, Nat.le_trans hb hbb, rest⟩
/-- A row's own numbers. -/
def FlOut (n : Nat) (xs : List Value) (w : World) (v : Value) (w' : World) : Prop := Below w.heap.size w w' ∧ w'.ownsRow w.heap.size 35 1 v n xs
set_option maxRecDepth 20000 in
set_option maxHeartbeats 2000000 in
theorem clone_fl (g o n cap : Nat) (xs : List Value) (hx : xs.length = n) (h1 : ∀ u ∈ xs, u.oneCell' = true) (hn : n ≤ 1000) (w : World) (h : w.rangeAt g o xs) :
    Calls Try.prog 45 #[.slice (some ⟨g, o, none⟩) n cap] w fun e w' => ∃ A2 c2, e = .returned (.slice A2 n c2) ∧ FlOut n xs w (.slice A2 n c2) w' := by
  obtain ⟨i0, z0, hinf, hz0, hz1, hz2, hz3⟩ := info_parts5 info_f64t
  have hown : (w.alloc (.cells #[] 35 (0, 0))).ownsRow w.heap.size 35 1 (.slice (some ⟨w.heap.size, 0, none⟩) 0 0) 0 [] := World.ownsRow_lit w #[] 0 (Nat.le_refl _) (by unfold maxLen; omega) rfl
  have hn2 : ∀ j u, xs[j]? = some u → (w.alloc (.cells #[] 35 (0, 0))).cell? ((⟨g, o, none⟩ : Addr).add j) = some u := fun j u hj => by
    rw [Addr.add_mid, (((Below.refl w.heap.size w).alloc (Nat.le_refl _) _).cell (World.block_lt_of_cell? _ _ (h j u hj)))]
    exact h j u hj
  replace hn2 := Lib.hid hn2
  replace hown := Lib.hid hown
  unfold FlOut
  have heq : ∀ w : World, (binOp .eql 27 (.slice (some ⟨g, o, none⟩) n cap) (.slice none 0 0)).run Try.prog w = .ok (.bool false) w := fun w => by
    simp only [binOp]
    simp [run_equal_slice_nil w 27 35 (some ⟨g, o, none⟩) n cap Try.underlying27]
  have t1 : 0 + n ≤ maxLen := by unfold maxLen; omega
  have t2 : (0 + n) * 8 ≤ 140737488355328 := by omega
  clear h
  go_enter Try.func45, Try.ntmps45
  go_wp2_with (at_builtin; refine wpList_append_own _ rfl _ _ 27 rfl w.heap.size 35 i0 z0 1 8 Try.underlying27 hinf hz0 hz1 hz2 hz3 (by decide) _ _ _ rfl hown.out ⟨_, o, none⟩ n cap xs rfl (by rw [hx, Nat.mul_one]) hn2.out h1 t1 t2 (by simp) ?_; intro v1 w6 hown6 hg6 hnn6; have hb6 := ((Below.refl w.heap.size w).alloc (Nat.le_refl _) (.cells #[] 35 (0, 0))).grown hg6 (by simp) (fun k hk => by cases hk; exact Nat.le_refl _); clear hg6)
  rw [List.nil_append, Nat.zero_add] at hown6
  obtain ⟨A2, c2, rfl⟩ : ∃ A2 c2, v1 = .slice A2 n c2 := by
    rcases hown6.2 with ⟨e, h0⟩ | ⟨g2, cap2, cur, e, _⟩
    · exact ⟨none, 0, by rw [e, h0]⟩
    · exact ⟨_, cap2, e⟩
  go_ret
  exact ⟨A2, c2, rfl, hb6, hown6⟩
set_option maxRecDepth 20000 in
set_option maxHeartbeats 2000000 in
theorem copied_any (t m : Int) (g o n cap : Nat) (xs : List Value) (hx : xs.length = n) (h1 : ∀ u ∈ xs, u.oneCell' = true) (hn : n ≤ 1000) (w : World) (h : w.rangeAt g o xs) :
    Calls Try.prog 28 #[.agg #[.int .u64 t, .int .i64 m, .slice (some ⟨g, o, none⟩) n cap]] w fun e w' => ∃ A2 c2, e = .returned (.agg #[.int .u64 t, .int .i64 m, .slice A2 n c2]) ∧ FlOut n xs w (.slice A2 n c2) w' := by
  have hc := Lib.hid (fun w h => clone_fl g o n cap xs hx h1 hn w h)
  unfold FlOut at *
  go_enter Try.func28, Try.ntmps28
  go_upto_region 1 with (fail)
  refine name_wp (fun w1 => Below w.heap.size w w1 ∧ w1.heap[w.heap.size]? = some (.cells #[.int .u64 t, .int .i64 m, .slice (some ⟨g, o, none⟩) n cap] 29 (0, 0)) ∧ w1.heap[w.heap.size + 1]? = some (.cells #[.int .u64 0, .int .i64 0, .slice none 0 0] 29 (0, 0)) ∧ w1.rangeAt g o xs)
    ⟨((Below.refl _ _).alloc (Nat.le_refl _) _).alloc (by simp) _, alloc_keeps (alloc_at rfl), alloc_at (by simp), fun j u hj => ((((Below.refl _ _).alloc (Nat.le_refl _) _).alloc (by simp) _).cell (World.block_lt_of_cell? _ _ (h j u hj))).trans (h j u hj)⟩ ?_
  clear h
  rintro w1 ⟨hb, k0, k1, h⟩
  obtain ⟨c0, c1, c2, f0, f1, f2⟩ := blk3t k0
  go_wp2_with fail
  refine (hc.out _ h).mono ?_
  rintro e w2 ⟨A2, q2, rfl, hb2, hown⟩
  clear c0 c1 c2 f0 f1 f2 h
  have hgb : w1.heap.size ≤ w2.heap.size := hb2.size
  have hlt1 := lt_of_get k1
  replace k0 := keeps hb2 k0
  replace k1 := keeps hb2 k1
  have hbb := hb.size
  replace hb := below_next hb hb.size hb2
  clear hb2
  obtain ⟨c0, c1, c2, f0, f1, f2⟩ := blk3t k0
  go_upto_region 2 with (fail)
  have ks := store1 (v := .slice A2 n q2) (o := 2) k0
  have kz : (w2.setCell ⟨w.heap.size, 2, none⟩ (.slice A2 n q2)).heap[w.heap.size + 1]? = _ := store_far k1 (by simp)
  have hbs : Below w.heap.size w (w2.setCell ⟨w.heap.size, 2, none⟩ (.slice A2 n q2)) := hb.setCell (p := ⟨w.heap.size, 2, none⟩) (Nat.le_refl _) _
  have hown2 := hown.kept (w' := w2.setCell ⟨w.heap.size, 2, none⟩ (.slice A2 n q2)) (row := some w.heap.size) ⟨rfl, rfl, rfl, by simp [World.setCell], fun b hb hne => Below.heap_setCell _ _ _ _ (fun e => hne (by rw [show b = w.heap.size from e]))⟩ (.inr (fun e => by have := (hown.lt _ e).1; omega))
  replace ks : (w2.setCell ⟨w.heap.size, 2, none⟩ (.slice A2 n q2)).heap[w.heap.size]? = some (.cells #[.int .u64 t, .int .i64 m, .slice A2 n q2] 29 (0, 0)) := ks.trans rfl
  clear k0 k1 c0 c1 c2 f0 f1 f2 hb hown
  generalize w2.setCell ⟨w.heap.size, 2, none⟩ (.slice A2 n q2) = w3 at *
  obtain ⟨s0, s1, s2, _, _, _⟩ := blk3t ks
  obtain ⟨z0, z1, z2, g0, g1, g2⟩ := blk3t kz
  go_wp2
  have kr := store1 (o := 2) (v := .slice A2 n q2) (store1 (o := 1) (v := .int .i64 m) (store1 (o := 0) (v := .int .u64 t) kz))
  have hld := loadVar_whole (ty := 29) (cs := [.int .u64 t, .int .i64 m, .slice A2 n q2]) _ (At0.of_block (kr.trans rfl)) Try.underlying29 rfl (by kernel_rfl)
  refine bodyPost_ret (v := .agg #[.int .u64 t, .int .i64 m, .slice A2 n q2]) (results_cell1 Try.results28 rfl hld) rfl ⟨A2, q2, rfl, ((hbs.setCell (p := ⟨w.heap.size + 1, 0, none⟩) (Nat.le_succ _) _).setCell (p := ⟨w.heap.size + 1, 1, none⟩) (Nat.le_succ _) _).setCell (p := ⟨w.heap.size + 1, 2, none⟩) (Nat.le_succ _) _, ?_⟩
  refine owns_mono1 (hown2.kept (row := some (w.heap.size + 1)) ⟨rfl, rfl, rfl, by simp [World.setCell], fun b hb hne => ?_⟩ (.inr (fun e => by have := (hown2.lt _ e).1; omega))) hbb
  have hne' : b ≠ w.heap.size + 1 := fun e => hne (by rw [e])
  exact ((Below.heap_setCell _ _ _ _ hne').trans (Below.heap_setCell _ _ _ _ hne')).trans (Below.heap_setCell _ _ _ _ hne')
theorem has_nil (i : Int) (w : World) : Calls Try.prog 30 #[.pointer none, .int .i64 i] w fun e w' => e = .returned (.bool false) ∧ Below w.heap.size w w' := by
  go_enter Try.func30, Try.ntmps30
  go_wp2
  go_ret
  exact ⟨rfl, Below.refl _ _⟩
theorem column_nil (i : Int) (w : World) : Calls Try.prog 13 #[.pointer none, .int .i64 i] w fun e w' => e = .returned (.tuple #[.slice none 0 0, .bool false]) ∧ Below w.heap.size w w' := by
  go_enter Try.func13, Try.ntmps13
  go_wp2_with fail
  refine call_then (has_nil i _) ?_
  intro w2 hb
  go_wp2
  exact bodyPost_ret (v := .tuple #[.slice none 0 0, .bool false]) (by simp [results, Try.results13, go_sem]) rfl ⟨rfl, hb⟩
theorem mean_nil (i : Int) (w : World) : Calls Try.prog 14 #[.pointer none, .int .i64 i] w fun e w' => e = .returned (.tuple #[.float .f64 0, .int .i64 1]) ∧ Below w.heap.size w w' := by
  go_enter Try.func14, Try.ntmps14
  go_wp2
  exact bodyPost_ret (v := .tuple #[.float .f64 0, .int .i64 1]) (by simp [results, Try.results14, go_sem]) rfl ⟨rfl, Below.refl _ _⟩
theorem rows_nil (w : World) : Calls Try.prog 11 #[.pointer none] w fun e w' => e = .returned (.slice none 0 0) ∧ Below w.heap.size w w' := by
  go_enter Try.func11, Try.ntmps11
  go_wp2
  go_ret
  exact ⟨rfl, Below.refl _ _⟩
theorem add_nilt (a b c : Value) (w : World) : Calls Try.prog 10 #[.pointer none, .agg #[a, b, c]] w fun e w' => e = .returned (.int .i64 1) ∧ Below w.heap.size w w' := by
  go_enter Try.func10, Try.ntmps10
  go_wp2
  go_ret
  exact ⟨rfl, (Below.refl _ _).alloc (Nat.le_refl _) _⟩
end Go.Proofs.Ytnaakklfbegldaa
