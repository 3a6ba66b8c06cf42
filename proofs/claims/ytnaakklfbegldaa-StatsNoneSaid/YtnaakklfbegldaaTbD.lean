/-
  StatsNone's walk: a nil table; what was handed in, or answered, is changed behind it.
-/
import Derived.Test.YtnaakklfbegldaaTbC
import Derived.Deep.Cut
import Derived.Deep.DeepCutAuto
import Derived.Deep.CutBlock
namespace Go.Proofs.Ytnaakklfbegldaa
open Go.RowKit Flow
set_option linter.unusedVariables false
set_option linter.unusedSimpArgs false

theorem Tab.far {p g cap : Nat} {t : Int} {r c : Nat} {a b : Nat} {w : World} (h : Tab p g cap t r c a b w) {k o : Nat} {v : Value} (h1 : p ≠ k) (h2 : g ≠ k) (h3 : r ≠ k) : Tab p g cap t r c a b (w.setCell ⟨k, o, none⟩ v) :=
  ⟨store_far h.hp h1, h.row.far h2, h.fl.far h3⟩
theorem Tab.lt {p g cap : Nat} {t : Int} {r c : Nat} {a b : Nat} {w : World} (h : Tab p g cap t r c a b w) : p < w.heap.size ∧ g < w.heap.size ∧ r < w.heap.size :=
  ⟨lt_of_get h.hp, cell_lt (h.cells.2.1), cell_lt (h.cells.2.2.2.2.1)⟩
theorem column_0 {p g cap : Nat} {t : Int} {r c : Nat} {a b : Nat} {w : World} (h : Tab p g cap t r c a b w) :
    Calls Try.prog 13 #[.pointer (some ⟨p, 0, none⟩), .int .i64 0] w fun e w' => ∃ q, e = .returned (.tuple #[.slice (some ⟨q, 0, none⟩) 1 1, .bool true]) ∧ Below w.heap.size w w' ∧ w'.cell? ⟨q, 0, none⟩ = some (.float .f64 a) :=
  column_one p g cap t r c a b 0 (.inl rfl) w h
theorem column_1 {p g cap : Nat} {t : Int} {r c : Nat} {a b : Nat} {w : World} (h : Tab p g cap t r c a b w) :
    Calls Try.prog 13 #[.pointer (some ⟨p, 0, none⟩), .int .i64 1] w fun e w' => ∃ q, e = .returned (.tuple #[.slice (some ⟨q, 0, none⟩) 1 1, .bool true]) ∧ Below w.heap.size w w' ∧ w'.cell? ⟨q, 0, none⟩ = some (.float .f64 b) :=
  column_one p g cap t r c a b 1 (.inr rfl) w h
set_option maxRecDepth 20000 in
set_option maxHeartbeats 8000000 in
theorem statsNone_walk (t m : Int) (A : Option Addr) (n cap : Nat) (i : Int) (w : World) :
    Calls Try.prog 7 #[.agg #[.int .u64 t, .int .i64 m, .slice A n cap], .int .i64 i] w fun e w' => e = .returned (.bool true) ∧ Below w.heap.size w w' := by
  have hAw := Lib.hid (fun w => awake_said w)
  have hcn := Lib.hid (fun w => column_nil i w)
  have hmn := Lib.hid (fun w => mean_nil i w)
  have hrn := Lib.hid (fun w => rows_nil w)
  have han := Lib.hid (fun w => add_nilt (.int .u64 t) (.int .i64 m) (.slice A n cap) w)
  have had := Lib.hid (fun p b w hp hr => tadd_first p b 3 [.float .f64 4607182418800017408, .float .f64 4611686018427387904] rfl (fun u hu => by
    simp only [List.mem_cons, List.not_mem_nil, or_false] at hu
    rcases hu with rfl | rfl <;> rfl) w hp hr)
  go_enter Try.func7, Try.ntmps7
  go_upto_region 1 with (fail)
  refine name_wp (fun w1 => Below w.heap.size w w1 ∧ w1.heap[w.heap.size]? = some (.cells #[.int .u64 t, .int .i64 m, .slice A n cap] 29 (0, 0))) ⟨(Below.refl _ _).alloc (Nat.le_refl _) _, alloc_at rfl⟩ ?_
  rintro w1 ⟨hb, k0⟩
  go_wp2_with fail
  refine call_then (hAw.out _) ?_
  intro w2 hv
  replace hb := below_next hb hb.size hv
  replace k0 := keeps hv k0
  clear hv hAw
  obtain ⟨x0, x1, x2, _, _, _⟩ := blk3t k0
  by_cases hn : (60 : Int) < (n : Int)
  · go_wp2
    go_ret
    exact ⟨rfl, hb⟩
  go_wp2_with fail
  refine call_then (hcn.out _) ?_
  clear x0 x1 x2
  intro w3 hv
  replace hb := below_next hb hb.size hv
  replace k0 := keeps hv k0
  clear hv hcn
  go_wp2_with fail
  refine call_then (hmn.out _) ?_
  intro w4 hv
  replace hb := below_next hb hb.size hv
  replace k0 := keeps hv k0
  clear hv hmn
  go_upto_region 9 with (fail)
  have kp := alloc_at (w := w4) (k := w4.heap.size) (o := .cells #[.slice none 0 0] 25 (0, 0)) rfl
  have hv := (Below.refl w4.heap.size w4).alloc (Nat.le_refl _) (.cells #[.slice none 0 0] 25 (0, 0))
  have hpw : w.heap.size < w4.heap.size := lt_of_get k0
  replace hb := below_next hb hb.size hv
  replace k0 := keeps hv k0
  clear hv
  generalize w4.alloc (.cells #[.slice none 0 0] 25 (0, 0)) = w5 at *
  obtain ⟨p, hp⟩ : ∃ p, w4.heap.size = p := ⟨_, rfl⟩
  rw [hp] at kp hpw ⊢
  clear hp w4
  go_upto_region 10 with (fail)
  have kb := alloc_at (w := w5) (k := w5.heap.size) (o := .cells #[.float .f64 4607182418800017408, .float .f64 4611686018427387904] 35 (0, 0)) rfl
  have hv := (Below.refl w5.heap.size w5).alloc (Nat.le_refl _) (.cells #[.float .f64 4607182418800017408, .float .f64 4611686018427387904] 35 (0, 0))
  have hbp : p < w5.heap.size := lt_of_get kp
  replace kp := keeps hv kp
  replace hb := below_next hb hb.size hv
  replace k0 := keeps hv k0
  clear hv
  generalize w5.alloc (.cells #[.float .f64 4607182418800017408, .float .f64 4611686018427387904] 35 (0, 0)) = w6 at *
  obtain ⟨b, hb5⟩ : ∃ b, w5.heap.size = b := ⟨_, rfl⟩
  rw [hb5] at kb hbp ⊢
  clear hb5 w5
  go_wp2_with fail
  refine (had.out p b _ kp (At0.of_block (cs := [.float .f64 4607182418800017408, .float .f64 4611686018427387904]) kb)).mono ?_
  rintro e w7 ⟨g, cg, A2, q2, rfl, hbut, hg, hp7, hat, hown⟩
  obtain ⟨s, rfl, hs1, hs2, hsa, _, _⟩ := two_own hown
  have hbl := lt_of_get kb
  have ht : Tab p g cg 3 s q2 4607182418800017408 4611686018427387904 w7 := ⟨hp7, hat, hsa⟩
  replace kb : w7.heap[b]? = _ := (hbut.block b hbl (by omega)).trans kb
  replace k0 : w7.heap[w.heap.size]? = _ := (hbut.block w.heap.size (by omega) (by omega)).trans k0
  replace hb := hbut.below hb (by omega) (by omega)
  clear had hbut hp7 hat hsa hown kp
  obtain ⟨b0, b1, g0, g1⟩ := blk2 kb
  go_upto_region 12 with (fail)
  replace ht := ht.far (k := b) (o := 0) (v := .float .f64 4621256167635550208) (by omega) (by omega) (by omega)
  replace k0 : (w7.setCell ⟨b, 0, none⟩ (.float .f64 4621256167635550208)).heap[w.heap.size]? = _ := store_far k0 (by simp; omega)
  replace hb := hb.setCell (p := ⟨b, 0, none⟩) (by simp; omega) (.float .f64 4621256167635550208)
  clear b0 b1 g0 g1 kb hs1 hs2 hg hbl
  generalize w7.setCell ⟨b, 0, none⟩ (.float .f64 4621256167635550208) = w8 at *
  go_wp2_with fail
  refine (rows_one _ _ _ _ _ _ _ _ _ ht).mono ?_
  rintro e w9 ⟨q, s2, c3, rfl, hv, hq1, hq2, d0, d1, d2⟩
  have hl := ht.lt
  have hl0 := lt_of_get k0
  replace ht := ht.up hv
  replace hb := below_next hb hb.size hv
  replace k0 := keeps hv k0
  clear hv
  go_wp2
  refine wp_loop_rounds 2 ?_
  rw [rounds_succ]
  go_wp2
  replace ht := ht.far (k := s2) (o := 1) (v := .float .f64 4619567317775286272) (by omega) (by omega) (by omega)
  replace k0 : (w9.setCell ⟨s2, 1, none⟩ (.float .f64 4619567317775286272)).heap[w.heap.size]? = _ := store_far k0 (by simp; omega)
  replace hb := hb.setCell (p := ⟨s2, 1, none⟩) (by simp; omega) (.float .f64 4619567317775286272)
  clear d0 d1 d2 hq1 hq2 hl hl0
  generalize w9.setCell ⟨s2, 1, none⟩ (.float .f64 4619567317775286272) = w10 at *
  rw [rounds_succ]
  go_wp2_with fail
  refine (column_0 ht).mono ?_
  rintro e w11 ⟨q0, rfl, hv, d0⟩
  replace ht := ht.up hv
  replace hb := below_next hb hb.size hv
  replace k0 := keeps hv k0
  clear hv
  go_wp2_with fail
  refine (column_1 ht).mono ?_
  rintro e w12 ⟨q1, rfl, hv, d1⟩
  replace d0 := (hv.cell (World.block_lt_of_cell? _ _ d0)).trans d0
  replace hb := below_next hb hb.size hv
  replace k0 := keeps hv k0
  clear hv ht
  have x3 : At0 w12 w.heap.size [.int .u64 t, .int .i64 m, .slice A n cap] := At0.of_block k0
  go_wp2_with (first | (refine list_load_mid _ _ _ 0 _ _ rfl rfl rfl x3 Try.underlying29 rfl (by kernel_rfl) ?_))
  refine call_then (han.out _) ?_
  intro w13 hv
  replace d0 := (hv.cell (World.block_lt_of_cell? _ _ d0)).trans d0
  replace d1 := (hv.cell (World.block_lt_of_cell? _ _ d1)).trans d1
  replace hb := below_next hb hb.size hv
  replace k0 := keeps hv k0
  clear hv x3
  go_wp2_with fail
  refine call_then (hrn.out _) ?_
  intro w14 hv
  replace d0 := (hv.cell (World.block_lt_of_cell? _ _ d0)).trans d0
  replace d1 := (hv.cell (World.block_lt_of_cell? _ _ d1)).trans d1
  replace hb := below_next hb hb.size hv
  replace k0 := keeps hv k0
  clear hv
  go_wp2
  have hfl : (FloatKind.f64.format.order 4611686018427387904 4611686018427387904 == some Ordering.eq) = true := by kernel_rfl
  rw [hfl]
  go_ret
  exact ⟨rfl, hb⟩
end Go.Proofs.Ytnaakklfbegldaa
