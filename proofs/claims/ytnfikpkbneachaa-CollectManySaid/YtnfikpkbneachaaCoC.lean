/-
  Windows that are wanted: what is asked at first (the law's fixed fact).
-/
import Derived.Test.YtnfikpkbneachaaCoB
namespace Go.Proofs.Ytnfikpkbneachaa
open Go.RowKit Flow
set_option linter.unusedVariables false
set_option linter.unusedSimpArgs false

def z16 : List Value := [.int .u8 0, .int .u8 0, .int .u8 0, .int .u8 0, .int .u8 0, .int .u8 0, .int .u8 0, .int .u8 0, .int .u8 0, .int .u8 0, .int .u8 0, .int .u8 0, .int .u8 0, .int .u8 0, .int .u8 0, .int .u8 0]
/-- A request: its timer, its number, the window, whom it asks. -/
def req (a b c n s : Int) : List Value := [.int .u64 a, .int .u64 b, .int .u64 c, .int .u64 n, .int .u64 s, .int .i64 0, .slice none 0 0, .int .i64 0, .int .u8 0, .int .u8 0, .int .u8 0, .int .u8 0, .int .u8 0, .int .u8 0, .int .u8 0, .int .u8 0, .int .u8 0, .int .u8 0, .int .u8 0, .int .u8 0, .int .u8 0, .int .u8 0, .int .u8 0, .int .u8 0]
def mess (k n s : Int) : List Value := [.int .u8 k, .int .u64 n, .int .u64 s, .int .i64 0, .int .u8 0, .int .u8 0, .int .u8 0, .int .u8 0, .int .u8 0, .int .u8 0, .int .u8 0, .int .u8 0, .int .u8 0, .int .u8 0, .int .u8 0, .int .u8 0, .int .u8 0, .int .u8 0, .int .u8 0, .int .u8 0, .int .i64 0, .slice none 0 0]
def lett (o k n s : Int) : List Value := .int .i64 o :: mess k n s
theorem one_mess {k n s : Int} : ∀ u ∈ mess k n s, u.oneCell' = true := one_list rfl
theorem one_lett {t k n s : Int} : ∀ u ∈ lett t k n s, u.oneCell' = true := one_list rfl
set_option maxRecDepth 20000 in
set_option maxHeartbeats 4000000 in
theorem after_ok (a b : Int) (w : World) : Calls Try.prog 13 #[.int .u64 a, .int .u64 b] w fun e w' => e = .returned (.agg #[.int .u64 a, .int .u64 b, .int .u64 0]) ∧ Below w.heap.size w w' := by
  go_enter Try.func13, Try.ntmps13
  go_wp2_with (first | (refine list_store_whole _ _ _ _ [.int .u64 a, .int .u64 b, .int .u64 0] [.int .u64 0, .int .u64 0, .int .u64 0] 60 rfl rfl rfl rfl (alloc_at rfl) rfl (by kernel_rfl) (one_list rfl) ?_; intro w5 hbut ks; have hv := hbut.below ((Below.refl w.heap.size w).alloc (Nat.le_refl _) _) (Nat.le_refl _) (by simp)))
  have hld := loadVar_whole (ty := 60) (cs := [.int .u64 a, .int .u64 b, .int .u64 0]) _ (At0.of_block ks) Try.underlying60 rfl (by kernel_rfl)
  exact bodyPost_ret (v := .agg #[.int .u64 a, .int .u64 b, .int .u64 0]) (results_cell1 Try.results13 rfl hld) rfl ⟨rfl, hv⟩
theorem req_cells {r : Nat} {a b c n s : Int} {w : World} {t : TypeId} (h : w.heap[r]? = some (.cells (req a b c n s).toArray t (0, 0))) :
    w.cell? ⟨r, 0, none⟩ = some (.int .u64 a) ∧ w.cell? ⟨r, 1, none⟩ = some (.int .u64 b) ∧ w.cell? ⟨r, 2, none⟩ = some (.int .u64 c) ∧ w.cell? ⟨r, 3, none⟩ = some (.int .u64 n) ∧ w.cell? ⟨r, 4, none⟩ = some (.int .u64 s) ∧ w.cell? ⟨r, 5, none⟩ = some (.int .i64 0) ∧
      w.frozen? ⟨r, 0, none⟩ = false ∧ w.frozen? ⟨r, 1, none⟩ = false ∧ w.frozen? ⟨r, 2, none⟩ = false := by
  have g := At0.of_block h
  have x0 := g 0 _ rfl
  have x1 := g 1 _ rfl
  have x2 := g 2 _ rfl
  have x3 := g 3 _ rfl
  have x4 := g 4 _ rfl
  have x5 := g 5 _ rfl
  simp only [Nat.zero_add, Nat.add_zero] at x0 x1 x2 x3 x4 x5
  refine ⟨x0, x1, x2, x3, x4, x5, ?_, ?_, ?_⟩ <;> simp [World.frozen?, h]
set_option maxRecDepth 20000 in
set_option maxHeartbeats 4000000 in
theorem due_now (r : Nat) (n s : Int) (w : World) (h : w.heap[r]? = some (.cells (req 3 0 0 n s).toArray 66 (0, 0))) : Calls Try.prog 14 #[.pointer (some ⟨r, 0, none⟩), .int .u64 3] w fun e w' => e = .returned (.bool true) ∧ Below w.heap.size w w' := by
  go_enter Try.func14, Try.ntmps14
  go_wp2
  refine wp_region_flow0 (by kernel_rfl) (by kernel_rfl) ?_
  intro ι _ φ hφ
  have d0 := fun i => (req_cells (keeps (hφ.old i) h)).1
  have d1 := fun i => (req_cells (keeps (hφ.old i) h)).2.1
  repeat (go_big_quiet_step (fail))
  refine wpQuiet_nil ?_
  intro w6 hv
  go_wp2
  go_ret
  exact ⟨rfl, hv⟩
set_option maxRecDepth 20000 in
set_option maxHeartbeats 4000000 in
theorem again_now (r : Nat) (n s : Int) (w : World) (h : w.heap[r]? = some (.cells (req 3 0 0 n s).toArray 66 (0, 0))) : Calls Try.prog 15 #[.pointer (some ⟨r, 0, none⟩), .int .u64 3] w fun e w' => e = .returned (.tuple #[]) ∧ But r w w' ∧ w'.heap[r]? = some (.cells (req 3 1 2 n s).toArray 66 (0, 0)) := by
  obtain ⟨c0, c1, c2, _, _, _, f0, f1, f2⟩ := req_cells h
  go_enter Try.func15, Try.ntmps15
  go_wp2
  refine bodyPost_end (results_none rfl _ _ _) rfl ?_
  refine ⟨rfl, ?_, ?_⟩
  · exact (((But.refl r w).set _).set _).set _
  · exact (store1 (o := 2) (v := .int .u64 2) (store1 (o := 1) (v := .int .u64 1) (store1 (o := 0) (v := .int .u64 3) h))).trans rfl
set_option maxRecDepth 20000 in
set_option maxHeartbeats 4000000 in
theorem letter_ok (r : Nat) (a b c n s : Int) (w : World) (h : w.heap[r]? = some (.cells (req a b c n s).toArray 66 (0, 0))) : Calls Try.prog 16 #[.pointer (some ⟨r, 0, none⟩)] w fun e w' => e = .returned (.agg (lett 0 4 n s).toArray) ∧ Below w.heap.size w w' := by
  go_enter Try.func16, Try.ntmps16
  go_upto_region 1 with (fail)
  refine name_wp (fun w1 => Below w.heap.size w w1 ∧ w1.heap[r]? = some (.cells (req a b c n s).toArray 66 (0, 0)) ∧ w1.heap[w.heap.size]? = some (.cells (lett 0 0 0 0).toArray 50 (0, 0))) ⟨(Below.refl _ _).alloc (Nat.le_refl _) _, alloc_keeps h, (alloc_at rfl).trans rfl⟩ ?_
  clear h
  rintro w1 ⟨hb, k0, k1⟩
  obtain ⟨q, hq⟩ : ∃ q, w.heap.size = q := ⟨_, rfl⟩
  rw [hq] at k1 hb ⊢
  replace hq := Lib.hid hq
  refine segS_start (gb := fun _ => True) 10 (by kernel_rfl) (by decide) ?_
  intro v0 hv
  replace hb := below_next hb (by have := hb.size; have := hq.out; omega) hv
  replace k0 := keeps hv k0
  replace k1 := keeps hv k1
  refine segS_batch 1 [0, 1, 2, 3, 4, 5, 6, 7, 8] (by kernel_rfl) rfl (by kernel_rfl) (by kernel_rfl) (by kernel_rfl) ?_
  apply Exists.intro
  refine ⟨fun ι _ φ hφ => ?_, fun v4 hv => ?_⟩
  · have d3 := fun i => mid_familyC hφ (At0.of_block k0) trivial _ ⟨i, rfl⟩ 3 _ rfl
    have d4 := fun i => mid_familyC hφ (At0.of_block k0) trivial _ ⟨i, rfl⟩ 4 _ rfl
    simp only [Nat.zero_add] at d3 d4
    repeat (refine pick_step rfl ?_; go_big_quiet_step (fail))
    exact pick_end
  replace hb := below_next hb (by have := hb.size; have := hq.out; omega) hv
  replace k0 := keeps hv k0
  replace k1 := keeps hv k1
  refine segS_one 9 _ (by decide) rfl (by kernel_rfl) ?_
  intro v5 K hv hK
  replace hb := below_next hb (by have := hb.size; have := hq.out; omega) hv
  replace k0 := keeps hv k0
  replace k1 := keeps hv k1
  replace hK := Lib.hid hK
  go_simp
  have hv := (Below.refl v5.heap.size v5).alloc (Nat.le_refl _) (.cells (mess 0 0 0).toArray 48 (0, 0))
  refine hK.out _ (v5.alloc (.cells (mess 0 0 0).toArray 48 (0, 0))) (HeldS.of_below hv) ?_
  clear hK K
  have km := alloc_at (w := v5) (k := v5.heap.size) (o := .cells (mess 0 0 0).toArray 48 (0, 0)) rfl
  have hqm : q < v5.heap.size := lt_of_get k1
  replace hb := below_next hb (by have := hb.size; have := hq.out; omega) hv
  replace k0 := keeps hv k0
  replace k1 := keeps hv k1
  clear hv
  generalize v5.alloc (.cells (mess 0 0 0).toArray 48 (0, 0)) = v6 at *
  generalize v5.heap.size = qm at *
  refine segS_tail (by kernel_rfl) ?_
  intro v9 hv
  replace km := keeps hv km
  replace hb := below_next hb (by have := hb.size; have := hq.out; omega) hv
  replace k0 := keeps hv k0
  replace k1 := keeps hv k1
  clear hv
  simp only [List.drop_succ_cons, List.drop_zero]
  have hlm := lt_of_get km
  have hone := Lib.hid (@one_mess 4 n s)
  go_wp2_with (first | (refine list_store_whole _ _ _ _ (mess 4 n s) (mess 0 0 0) 48 rfl rfl rfl rfl km rfl (by kernel_rfl) hone.out ?_; intro w7 hbut kr))
  refine calm_normal ?_
  replace hb := hbut.below hb (Nat.le_of_lt hqm) (by omega)
  have k0' := (hbut.block r (lt_of_get k0) (fun e => by
    rw [e, km] at k0
    cases k0)).trans k0
  have k1' := (hbut.block q (lt_of_get k1) (by omega)).trans k1
  clear k0 k1 km hbut hone hlm
  obtain ⟨_, _, _, c3, c4, c5, _, _, _⟩ := req_cells k0'
  go_wp2
  refine segS_start (gb := fun _ => True) 6 (by kernel_rfl) (by decide) ?_
  intro v0 hv
  replace hb := below_next hb (by have := hb.size; have := hq.out; omega) hv
  replace k0' := keeps hv k0'
  replace k1' := keeps hv k1'
  replace kr := keeps hv kr
  refine segS_batch 0 [0, 1, 2, 3, 4, 5] (by kernel_rfl) rfl (by kernel_rfl) (by kernel_rfl) (by kernel_rfl) ?_
  apply Exists.intro
  refine ⟨fun ι _ φ hφ => ?_, fun v4 hv => ?_⟩
  · have d5 := fun i => mid_familyC hφ (At0.of_block k0') trivial _ ⟨i, rfl⟩ 5 _ rfl
    have km3 := At0.of_block kr
    simp only [Nat.zero_add] at d5
    repeat (refine pick_step rfl ?_; first
      | (refine quiet_load_mid _ _ _ 0 _ _ rfl rfl rfl (mid_familyC hφ km3 trivial) Try.underlying48 rfl (by kernel_rfl) ?_; simp only [Act.put, List.setIfInBounds_toArray, List.set_cons_succ, List.set_cons_zero]; rw [show (mess 4 n s).toArray = #[.int .u8 4, .int .u64 n, .int .u64 s, .int .i64 0, .int .u8 0, .int .u8 0, .int .u8 0, .int .u8 0, .int .u8 0, .int .u8 0, .int .u8 0, .int .u8 0, .int .u8 0, .int .u8 0, .int .u8 0, .int .u8 0, .int .u8 0, .int .u8 0, .int .u8 0, .int .u8 0, .int .i64 0, .slice none 0 0] from rfl])
      | go_big_quiet_step (fail))
    exact pick_end
  replace hb := below_next hb (by have := hb.size; have := hq.out; omega) hv
  replace k0' := keeps hv k0'
  replace k1' := keeps hv k1'
  replace kr := keeps hv kr
  refine segS_tail (by kernel_rfl) ?_
  intro v9 hv
  replace hb := below_next hb (by have := hb.size; have := hq.out; omega) hv
  replace k0' := keeps hv k0'
  replace k1' := keeps hv k1'
  replace kr := keeps hv kr
  clear hv
  simp only [List.drop_succ_cons, List.drop_zero]
  have hl1 := lt_of_get k1'
  have hone := Lib.hid (@one_lett 0 4 n s)
  go_wp2_with (first | (refine list_store_whole _ _ _ _ (lett 0 4 n s) (lett 0 0 0 0) 50 rfl rfl rfl rfl k1' rfl (by kernel_rfl) hone.out ?_; intro w8 hbut kx))
  refine calm_normal ?_
  go_wp2
  have hbe := hbut.below hb (by omega) (by omega)
  rw [← hq.out] at hbe
  have hld := loadVar_whole (ty := 50) (cs := lett 0 4 n s) _ (At0.of_block kx) Try.underlying50 rfl (by kernel_rfl)
  exact bodyPost_ret (v := .agg (lett 0 4 n s).toArray) (results_cell1 Try.results16 rfl hld) rfl ⟨rfl, hbe⟩
end Go.Proofs.Ytnfikpkbneachaa
