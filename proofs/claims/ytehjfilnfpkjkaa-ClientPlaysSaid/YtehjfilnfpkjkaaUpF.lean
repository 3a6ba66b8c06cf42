/-
  A client: when it says its report.
-/
import Derived.Test.YtehjfilnfpkjkaaUpE
namespace Go.Proofs.Ytehjfilnfpkjkaa
open Go.RowKit Flow
set_option linter.unusedVariables false
set_option linter.unusedSimpArgs false

theorem cl_cells {q : Nat} {E0 E1 : Value} {a0 a1 : Bool} {k0 k1 f wt nx sent : Int} {w : World} {t : TypeId} (h : w.heap[q]? = some (.cells (up22 E0 ++ up22 E1 ++ clTail a0 a1 k0 k1 f wt nx sent).toArray t (0, 0))) :
    w.cell? ⟨q, 44, none⟩ = some (.bool a0) ∧ w.cell? ⟨q, 45, none⟩ = some (.bool a1) ∧ w.cell? ⟨q, 48, none⟩ = some (.int .u64 f) ∧ w.cell? ⟨q, 49, none⟩ = some (.int .u64 wt) ∧ w.cell? ⟨q, 50, none⟩ = some (.int .u64 nx) ∧ w.cell? ⟨q, 51, none⟩ = some (.int .i64 sent) ∧
      w.frozen? ⟨q, 48, none⟩ = false ∧ w.frozen? ⟨q, 49, none⟩ = false ∧ w.frozen? ⟨q, 50, none⟩ = false ∧ w.frozen? ⟨q, 51, none⟩ = false := by
  have g := At0.of_block h
  have x0 := g 44 _ rfl
  have x1 := g 45 _ rfl
  have x2 := g 48 _ rfl
  have x3 := g 49 _ rfl
  have x4 := g 50 _ rfl
  have x5 := g 51 _ rfl
  simp only [Nat.zero_add] at x0 x1 x2 x3 x4 x5
  refine ⟨x0, x1, x2, x3, x4, x5, ?_, ?_, ?_, ?_⟩ <;> simp [World.frozen?, h]
/-- Is it due? -/
def dueB (f wt now : Int) : Bool := decide (f ≤ now) && decide (wt ≤ now - f)
set_option maxRecDepth 20000 in
set_option maxHeartbeats 4000000 in
theorem due_any (q : Nat) (f wt now : Int) (hf : 0 ≤ f) (hn : now < 18446744073709551616) (w : World) (c0 : w.cell? ⟨q, 48, none⟩ = some (.int .u64 f)) (c1 : w.cell? ⟨q, 49, none⟩ = some (.int .u64 wt)) :
    Calls Try.prog 14 #[.pointer (some ⟨q, 48, none⟩), .int .u64 now] w fun e w' => e = .returned (.bool (dueB f wt now)) ∧ Below w.heap.size w w' := by
  have hw : f ≤ now → IntKind.u64.wrap (now - f) = now - f := fun h => by rw [IntKind.wrap_u64]; omega
  obtain ⟨d, hd⟩ : ∃ d, now - f = d := ⟨_, rfl⟩
  unfold dueB
  rw [hd] at hw ⊢
  by_cases h1 : f ≤ now
  · have hw1 := hw h1
    have h1t : decide (f ≤ now) = true := decide_eq_true h1
    rw [decide_eq_true h1, Bool.true_and]
    obtain ⟨b, hb⟩ : ∃ b, decide (wt ≤ d) = b := ⟨_, rfl⟩
    rw [hb]
    clear hw
    go_enter Try.func14, Try.ntmps14
    go_wp2
    refine wp_region_flow0 (by kernel_rfl) (by kernel_rfl) ?_
    intro ι _ φ hφ
    have d0 := fun i => ((hφ.old i).cell (World.block_lt_of_cell? _ _ c0)).trans c0
    have d1 := fun i => ((hφ.old i).cell (World.block_lt_of_cell? _ _ c1)).trans c1
    repeat (go_big_quiet_step (fail))
    refine wpQuiet_nil ?_
    intro w6 hv
    go_wp2
    go_ret
    exact ⟨rfl, hv⟩
  · have h1f : decide (f ≤ now) = false := decide_eq_false h1
    rw [decide_eq_false h1, Bool.false_and]
    clear hw
    go_enter Try.func14, Try.ntmps14
    go_wp2
    refine wp_region_flow0 (by kernel_rfl) (by kernel_rfl) ?_
    intro ι _ φ hφ
    have d0 := fun i => ((hφ.old i).cell (World.block_lt_of_cell? _ _ c0)).trans c0
    have d1 := fun i => ((hφ.old i).cell (World.block_lt_of_cell? _ _ c1)).trans c1
    repeat (go_big_quiet_step (fail))
    refine wpQuiet_nil ?_
    intro w6 hv
    go_wp2
    go_ret
    exact ⟨rfl, hv⟩
theorem tick_nil (now : Int) (w : World) : Calls Try.prog 9 #[.pointer none, .int .u64 now] w fun e w' => e = .returned (.slice none 0 0) ∧ Below w.heap.size w w' := by
  go_enter Try.func9, Try.ntmps9
  go_wp2
  go_ret
  exact ⟨rfl, Below.refl _ _⟩
theorem tick_late (q : Nat) (m0 m1 : Mg) (id : List Int) (t : Int) (ps s0 s1 : List Int) (a0 a1 : Bool) (k0 k1 f wt nx sent now : Int) (hf : 0 ≤ f) (hn : now < 18446744073709551616) (hd : dueB f wt now = false) (w : World) (h : Cl q m0 m1 id t ps s0 s1 a0 a1 k0 k1 f wt nx sent w) :
    Calls Try.prog 9 #[.pointer (some ⟨q, 0, none⟩), .int .u64 now] w fun e w' => e = .returned (.slice none 0 0) ∧ Below w.heap.size w w' := by
  obtain ⟨_, _, c48, c49, _, _, _⟩ := cl_cells h.at'
  have hdue := due_any q f wt now hf hn w c48 c49
  rw [hd] at hdue
  replace hdue := Lib.hid hdue
  clear c48 c49 h
  go_enter Try.func9, Try.ntmps9
  go_wp2_with fail
  refine call_then hdue.out ?_
  intro w2 hv
  go_wp2
  go_ret
  exact ⟨rfl, hv⟩
/-- What the next wait is. -/
def nextW (nx : Int) : Int := if 1 < nx then nx else 1
def nextN (nx : Int) : Int := if 2 * nextW nx < 16 then 2 * nextW nx else 16
set_option maxRecDepth 20000 in
set_option maxHeartbeats 4000000 in
theorem again_any (q : Nat) (E0 E1 : Value) (a0 a1 : Bool) (k0 k1 f wt nx sent now : Int) (hx0 : 0 ≤ nx) (hx1 : nx ≤ 16) (w : World) (hcl : w.heap[q]? = some (.cells (up22 E0 ++ up22 E1 ++ clTail a0 a1 k0 k1 f wt nx sent).toArray 59 (0, 0))) :
    Calls Try.prog 15 #[.pointer (some ⟨q, 48, none⟩), .int .u64 now] w fun e w' => e = .returned (.tuple #[]) ∧ But q w w' ∧ w'.heap[q]? = some (.cells (up22 E0 ++ up22 E1 ++ clTail a0 a1 k0 k1 now (nextW nx) (nextN nx) sent).toArray 59 (0, 0)) := by
  obtain ⟨_, _, c48, c49, c50, _, f48, f49, f50, _⟩ := cl_cells hcl
  obtain ⟨W, hW⟩ : ∃ W, nextW nx = W := ⟨_, rfl⟩
  obtain ⟨N, hN⟩ : ∃ N, nextN nx = N := ⟨_, rfl⟩
  have hW0 : 1 ≤ W ∧ W ≤ 16 := by rw [← hW]; unfold nextW; split <;> omega
  have hmx : max 1 nx = W := by rw [← hW]; unfold nextW; split <;> omega
  have hmn : min (2 * W) 16 = N := by rw [← hN]; unfold nextN; rw [hW]; split <;> omega
  have hww : IntKind.u64.wrap (2 * W) = 2 * W := by rw [IntKind.wrap_u64]; omega
  rw [hW, hN]
  replace hmx := Lib.hid hmx
  replace hmn := Lib.hid hmn
  clear hW hN
  by_cases h1 : 1 < nx
  · obtain rfl : W = nx := by rw [← hmx.out]; omega
    by_cases h2 : 2 * W < 16
    · obtain rfl : N = 2 * W := by rw [← hmn.out]; omega
      clear hmx hmn
      go_enter Try.func15, Try.ntmps15
      go_wp2
      refine bodyPost_end (results_none rfl _ _ _) rfl ?_
      refine ⟨rfl, (((But.refl q w).set _).set _).set _, ?_⟩
      exact (store1 (o := 50) (store1 (o := 49) (store1 (o := 48) hcl))).trans rfl
    · obtain rfl : N = 16 := by rw [← hmn.out]; omega
      by_cases h3 : 16 < 2 * W
      · skip
        clear hmx hmn
        go_enter Try.func15, Try.ntmps15
        go_wp2
        refine bodyPost_end (results_none rfl _ _ _) rfl ?_
        refine ⟨rfl, (((But.refl q w).set _).set _).set _, ?_⟩
        exact (store1 (o := 50) (store1 (o := 49) (store1 (o := 48) hcl))).trans rfl
      · obtain rfl : W = 8 := by omega
        clear hmx hmn
        go_enter Try.func15, Try.ntmps15
        go_wp2
        refine bodyPost_end (results_none rfl _ _ _) rfl ?_
        refine ⟨rfl, (((But.refl q w).set _).set _).set _, ?_⟩
        exact (store1 (o := 50) (store1 (o := 49) (store1 (o := 48) hcl))).trans rfl
  · obtain rfl : W = 1 := by rw [← hmx.out]; omega
    obtain rfl : N = 2 := by rw [← hmn.out]; rfl
    clear hmx hmn
    go_enter Try.func15, Try.ntmps15
    go_wp2
    refine bodyPost_end (results_none rfl _ _ _) rfl ?_
    refine ⟨rfl, (((But.refl q w).set _).set _).set _, ?_⟩
    exact (store1 (o := 50) (store1 (o := 49) (store1 (o := 48) hcl))).trans rfl
end Go.Proofs.Ytehjfilnfpkjkaa
