/-
  A table's rows: any row copied; a table; what can't be added.
-/
import Derived.Test.YtnaakklfbegldaaTcB
import Derived.Test.YtnaakklfbegldaaIns
import Derived.Test.YtnaakklfbegldaaSegS
import Derived.Deep.Cut
import Derived.Deep.DeepCutAuto
import Derived.Deep.CutBlock
namespace Go.Proofs.Ytnaakklfbegldaa
open Go.RowKit Flow
set_option linter.unusedVariables false
set_option linter.unusedSimpArgs false

set_option maxRecDepth 20000 in
set_option maxHeartbeats 2000000 in
theorem clone_news (B : Option Addr) (n cap : Nat) (xs : List Value) (h1 : ∀ u ∈ xs, u.oneCell' = true) (hn : n ≤ 1000) (w : World) (h : News w B n cap 1 xs) :
    Calls Try.prog 45 #[.slice B n cap] w fun e w' => ∃ A2 c2, e = .returned (.slice A2 n c2) ∧ FlOut n xs w (.slice A2 n c2) w' := by
  cases B with
  | none =>
    obtain ⟨rfl, rfl⟩ := h.none rfl
    obtain rfl : xs = [] := List.eq_nil_of_length_eq_zero (by rw [h.len, Nat.zero_mul])
    have heq : ∀ w : World, (binOp .eql 27 (.slice none 0 0) (.slice none 0 0)).run Try.prog w = .ok (.bool true) w := fun w => by
      simp only [binOp]
      simp [run_equal_slice_nil w 27 35 none 0 0 Try.underlying27]
    unfold FlOut
    clear h
    go_enter Try.func45, Try.ntmps45
    go_wp2
    go_ret
    exact ⟨none, 0, rfl, Below.refl _ _, World.ownsRow_nil _ _ _ _⟩
  | some ad =>
    obtain ⟨i0, z0, hinf, hz0, hz1, hz2, hz3⟩ := info_parts5 info_f64t
    have hown : (w.alloc (.cells #[] 35 (0, 0))).ownsRow w.heap.size 35 1 (.slice (some ⟨w.heap.size, 0, none⟩) 0 0) 0 [] := World.ownsRow_lit w #[] 0 (Nat.le_refl _) (by unfold maxLen; omega) rfl
    have hn2 := (h.up ((Below.refl w.heap.size w).alloc (Nat.le_refl _) (.cells #[] 35 (0, 0)))).lies ad rfl
    have hx := h.len
    replace hn2 := Lib.hid hn2
    replace hown := Lib.hid hown
    unfold FlOut
    have heq : ∀ w : World, (binOp .eql 27 (.slice (some ad) n cap) (.slice none 0 0)).run Try.prog w = .ok (.bool false) w := fun w => by
      simp only [binOp]
      simp [run_equal_slice_nil w 27 35 (some ad) n cap Try.underlying27]
    have t1 : 0 + n ≤ maxLen := by unfold maxLen; omega
    have t2 : (0 + n) * 8 ≤ 140737488355328 := by omega
    clear h
    go_enter Try.func45, Try.ntmps45
    go_wp2_with (at_builtin; refine wpList_append_own _ rfl _ _ 27 rfl w.heap.size 35 i0 z0 1 8 Try.underlying27 hinf hz0 hz1 hz2 hz3 (by decide) _ _ _ rfl hown.out ad n cap xs rfl hx hn2.out h1 t1 t2 (by simp) ?_; intro v1 w6 hown6 hg6 hnn6; have hb6 := ((Below.refl w.heap.size w).alloc (Nat.le_refl _) (.cells #[] 35 (0, 0))).grown hg6 (by simp) (fun k hk => by cases hk; exact Nat.le_refl _); clear hg6)
    rw [List.nil_append, Nat.zero_add] at hown6
    obtain ⟨A2, c2, rfl⟩ := owns_slice hown6
    go_ret
    exact ⟨A2, c2, rfl, hb6, hown6⟩
set_option maxRecDepth 20000 in
set_option maxHeartbeats 2000000 in
theorem copied_news (t m : Int) (B : Option Addr) (n cap : Nat) (xs : List Value) (h1 : ∀ u ∈ xs, u.oneCell' = true) (hn : n ≤ 1000) (w : World) (h : News w B n cap 1 xs) :
    Calls Try.prog 28 #[.agg #[.int .u64 t, .int .i64 m, .slice B n cap]] w fun e w' => ∃ A2 c2, e = .returned (.agg #[.int .u64 t, .int .i64 m, .slice A2 n c2]) ∧ FlOut n xs w (.slice A2 n c2) w' := by
  have hc := Lib.hid (fun w h => clone_news B n cap xs h1 hn w h)
  unfold FlOut at *
  go_enter Try.func28, Try.ntmps28
  go_upto_region 1 with (fail)
  refine name_wp (fun w1 => Below w.heap.size w w1 ∧ w1.heap[w.heap.size]? = some (.cells #[.int .u64 t, .int .i64 m, .slice B n cap] 29 (0, 0)) ∧ w1.heap[w.heap.size + 1]? = some (.cells #[.int .u64 0, .int .i64 0, .slice none 0 0] 29 (0, 0)) ∧ News w1 B n cap 1 xs)
    ⟨((Below.refl _ _).alloc (Nat.le_refl _) _).alloc (by simp) _, alloc_keeps (alloc_at rfl), alloc_at (by simp), h.up (((Below.refl _ _).alloc (Nat.le_refl _) _).alloc (by simp) _)⟩ ?_
  clear h
  rintro w1 ⟨hb, k0, k1, h⟩
  obtain ⟨c0, c1, c2, f0, f1, f2⟩ := blk3t k0
  go_wp2_with fail
  refine (hc.out _ h).mono ?_
  rintro e w2 ⟨A2, q2, rfl, hb2, hown⟩
  clear c0 c1 c2 f0 f1 f2 h
  have hgb : w1.heap.size ≤ w2.heap.size := hb2.size
  have hlt1 := lt_of_get k1
  replace k0 := keeps hb2 k0
  replace k1 := keeps hb2 k1
  have hbb := hb.size
  replace hb := below_next hb hb.size hb2
  clear hb2
  obtain ⟨c0, c1, c2, f0, f1, f2⟩ := blk3t k0
  go_upto_region 2 with (fail)
  have ks := store1 (v := .slice A2 n q2) (o := 2) k0
  have kz : (w2.setCell ⟨w.heap.size, 2, none⟩ (.slice A2 n q2)).heap[w.heap.size + 1]? = _ := store_far k1 (by simp)
  have hbs : Below w.heap.size w (w2.setCell ⟨w.heap.size, 2, none⟩ (.slice A2 n q2)) := hb.setCell (p := ⟨w.heap.size, 2, none⟩) (Nat.le_refl _) _
  have hown2 := hown.kept (w' := w2.setCell ⟨w.heap.size, 2, none⟩ (.slice A2 n q2)) (row := some w.heap.size) ⟨rfl, rfl, rfl, by simp [World.setCell], fun b hb hne => Below.heap_setCell _ _ _ _ (fun e => hne (by rw [show b = w.heap.size from e]))⟩ (.inr (fun e => by have := (hown.lt _ e).1; omega))
  replace ks : (w2.setCell ⟨w.heap.size, 2, none⟩ (.slice A2 n q2)).heap[w.heap.size]? = some (.cells #[.int .u64 t, .int .i64 m, .slice A2 n q2] 29 (0, 0)) := ks.trans rfl
  clear k0 k1 c0 c1 c2 f0 f1 f2 hb hown
  generalize w2.setCell ⟨w.heap.size, 2, none⟩ (.slice A2 n q2) = w3 at *
  obtain ⟨s0, s1, s2, _, _, _⟩ := blk3t ks
  obtain ⟨z0, z1, z2, g0, g1, g2⟩ := blk3t kz
  go_wp2
  have kr := store1 (o := 2) (v := .slice A2 n q2) (store1 (o := 1) (v := .int .i64 m) (store1 (o := 0) (v := .int .u64 t) kz))
  have hld := loadVar_whole (ty := 29) (cs := [.int .u64 t, .int .i64 m, .slice A2 n q2]) _ (At0.of_block (kr.trans rfl)) Try.underlying29 rfl (by kernel_rfl)
  refine bodyPost_ret (v := .agg #[.int .u64 t, .int .i64 m, .slice A2 n q2]) (results_cell1 Try.results28 rfl hld) rfl ⟨A2, q2, rfl, ((hbs.setCell (p := ⟨w.heap.size + 1, 0, none⟩) (Nat.le_succ _) _).setCell (p := ⟨w.heap.size + 1, 1, none⟩) (Nat.le_succ _) _).setCell (p := ⟨w.heap.size + 1, 2, none⟩) (Nat.le_succ _) _, ?_⟩
  refine owns_mono1 (hown2.kept (row := some (w.heap.size + 1)) ⟨rfl, rfl, rfl, by simp [World.setCell], fun b hb hne => ?_⟩ (.inr (fun e => by have := (hown2.lt _ e).1; omega))) hbb
  have hne' : b ≠ w.heap.size + 1 := fun e => hne (by rw [e])
  exact ((Below.heap_setCell _ _ _ _ hne').trans (Below.heap_setCell _ _ _ _ hne')).trans (Below.heap_setCell _ _ _ _ hne')
/-- A row's numbers lie where it says. -/
structure FlAt (w : World) (s : TR) : Prop where
  nil : s.A = none → s.xs = [] ∧ s.c = 0
  lies : s.xs = [] ∨ ∃ g, s.A = some ⟨g, 0, none⟩ ∧ At0 w g (s.xs.map (Value.float .f64))
theorem FlAt.up {w w' : World} {s : TR} (h : FlAt w s) (hb : Below w.heap.size w w') : FlAt w' s := ⟨h.nil, h.lies.imp id (fun ⟨g, e, ha⟩ => ⟨g, e, ha.up hb⟩)⟩
theorem FlAt.news {w : World} {s : TR} (h : FlAt w s) : News w s.A s.xs.length s.c 1 (s.xs.map (Value.float .f64)) :=
  ⟨by simp, fun e => ⟨by rw [(h.nil e).1]; rfl, (h.nil e).2⟩, fun ad hA j u hj => by
    rcases h.lies with hx | ⟨g, e, ha⟩
    · rw [hx] at hj
      cases hj
    · rw [e] at hA
      cases hA
      rw [Addr.add_mid]
      exact ha j u hj⟩
/-- A table. -/
structure Tb (p base : Nat) (l : List TR) (v : Value) (w : World) : Prop where
  hp : w.heap[p]? = some (.cells #[v] 25 (0, 0))
  row : w.ownsRow base 29 3 v l.length (rowT l)
  pb : p < base
  bs : base ≤ w.heap.size
  up : TRising l
  few : l.length ≤ 32
  fl : ∀ s, s ∈ l → FlAt w s
  apart : ∀ s, s ∈ l → ∀ g, s.A = some ⟨g, 0, none⟩ → s.xs ≠ [] → v.ownBlock ≠ some g ∧ g ≠ p
theorem Tb.below {p base : Nat} {l : List TR} {v : Value} {w w' : World} (h : Tb p base l v w) (hb : Below w.heap.size w w') : Tb p base l v w' :=
  ⟨keeps hb h.hp, owns_upn h.row hb, h.pb, Nat.le_trans h.bs hb.size, h.up, h.few, fun s hs => (h.fl s hs).up hb, h.apart⟩
theorem tb_slice {p base : Nat} {l : List TR} {v : Value} {w : World} (h : Tb p base l v w) : (v = .slice none 0 0 ∧ l = []) ∨ ∃ g cap, v = .slice (some ⟨g, 0, none⟩) l.length cap := by
  rcases h.row.2 with ⟨h1, h2⟩ | ⟨g, cap, cur, h1, _⟩
  · exact .inl ⟨h1, List.length_eq_zero_iff.1 h2⟩
  · exact .inr ⟨g, cap, h1⟩
theorem tplace_exists {l : List TR} (hr : TRising l) (y : Int) : ∃ k, TPlace l y k := by
  have key : ∀ m, m ≤ l.length → (∀ i, i < m → (tnth l i).t < y) ∨ ∃ k, TPlace l y k := by
    intro m
    induction m with
    | zero => exact fun _ => .inl fun i hi => absurd hi (Nat.not_lt_zero _)
    | succ m ih =>
      intro hm
      rcases ih (by omega) with h | h
      · by_cases hc : (tnth l m).t < y
        · refine .inl fun i hi => ?_
          by_cases he : i = m
          · rw [he]; exact hc
          · exact h i (by omega)
        · refine .inr ⟨m, by omega, h, fun i h1 h2 => ?_⟩
          by_cases he : i = m
          · rw [he]; omega
          · have := hr m i (by omega) h2
            omega
      · exact .inr h
  rcases key l.length (Nat.le_refl _) with h | h
  · exact ⟨l.length, Nat.le_refl _, h, fun i h1 h2 => absurd h1 (by omega)⟩
  · exact h
set_option maxRecDepth 20000 in
set_option maxHeartbeats 2000000 in
theorem tfind_any (p base : Nat) (l : List TR) (v : Value) (w : World) (h : Tb p base l v w) (y : Int) (k : Nat) (hk : TPlace l y k) :
    Calls Try.prog 26 #[.pointer (some ⟨p, 0, none⟩), .int .u64 y] w fun e w' => e = .returned (.tuple #[.int .i64 (k : Int), .bool (thasB l y k)]) ∧ Below w.heap.size w w' := by
  rcases tb_slice h with ⟨rfl, rfl⟩ | ⟨g, cap, rfl⟩
  · obtain rfl : k = 0 := by have := hk.le; simpa using this
    exact tfind_nil p y w h.hp
  · have hs := fun w (hrow : w.ownsRow base 29 3 (.slice (some ⟨g, 0, none⟩) l.length cap) l.length (rowT l)) => (tsearch_any l h.up l.length rfl (by have := h.few; omega) y g cap base w hrow).mono (fun e w' hh => (by
      obtain ⟨m, h1, h2, h3⟩ := hh
      rw [hk.uniq h1]
      exact ⟨h2, h3⟩ : e = .returned (.tuple #[.int .i64 (k : Int), .bool (thasB l y k)]) ∧ Below w.heap.size w w'))
    have hp := h.hp
    have hrow := h.row
    generalize thasB l y k = B at *
    replace hs := Lib.hid hs
    clear h hk
    generalize l.length = n at *
    go_enter Try.func26, Try.ntmps26
    obtain ⟨c0, _⟩ := blk1t hp
    go_wp2_with fail
    refine call_then (hs.out _ hrow) ?_
    intro w2 hw2
    go_wp2
    exact bodyPost_ret (v := .tuple #[.int .i64 (k : Int), .bool B]) (by simp [results, Try.results26, go_sem]) rfl ⟨rfl, hw2⟩
theorem many_any (m : Int) (w : World) : Calls Try.prog 25 #[.int .i64 m] w fun e w' => e = .returned (.bool (decide (1 ≤ m) && decide (m ≤ 256))) ∧ Below w.heap.size w w' := by
  by_cases h1 : 1 ≤ m
  · by_cases h2 : m ≤ 256
    · rw [decide_eq_true h1, decide_eq_true h2]
      go_enter Try.func25, Try.ntmps25
      go_wp2
      go_ret
      exact ⟨rfl, Below.refl _ _⟩
    · rw [decide_eq_true h1, decide_eq_false h2]
      go_enter Try.func25, Try.ntmps25
      go_wp2
      go_ret
      exact ⟨rfl, Below.refl _ _⟩
  · rw [decide_eq_false h1]
    go_enter Try.func25, Try.ntmps25
    go_wp2
    go_ret
    exact ⟨rfl, Below.refl _ _⟩
end Go.Proofs.Ytnaakklfbegldaa
