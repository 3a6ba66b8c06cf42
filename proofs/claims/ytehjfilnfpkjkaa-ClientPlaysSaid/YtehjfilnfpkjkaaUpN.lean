/-
  A client: whose report it is.
-/
import Derived.Test.YtehjfilnfpkjkaaUpM
namespace Go.Proofs.Ytehjfilnfpkjkaa
open Go.RowKit Flow
set_option linter.unusedVariables false
set_option linter.unusedSimpArgs false

theorem results_cell_tmpU {P : Program} {fn : Func} {tmps : Array Value} {w : World} {a j : Nat} {t : TypeId} {b : Nat} {v v2 : Value} (hr : fn.results = #[.cell a t, .tmp j]) (ha : tmps.getD a undef = .pointer (some ⟨b, 0, none⟩))
    (h : (loadVar t ⟨b, 0, none⟩).run P w = .ok v w) (hj : tmps.getD j undef = v2) : (results fn tmps).run P w = .ok (.tuple #[v, v2]) w := by
  rw [Array.getD_eq_getD_getElem?] at ha hj
  simp [results, hr, asAddr, ha, h, hj]
set_option maxRecDepth 20000 in
set_option maxHeartbeats 4000000 in
theorem id_any (q : Nat) (m0 m1 : Mg) (id : List Int) (h16 : id.length = 16) (t : Int) (ps s0 s1 : List Int) (a0 a1 : Bool) (k0 k1 f wt nx sent : Int) (w : World) (h : Cl q m0 m1 id t ps s0 s1 a0 a1 k0 k1 f wt nx sent w) :
    Calls Try.prog 7 #[.pointer (some ⟨q, 0, none⟩)] w fun e w' => e = .returned (.tuple #[.agg (id.map (Value.int .u8)).toArray, .int .i64 sent]) ∧ Below w.heap.size w w' := by
  obtain ⟨_, _, _, _, _, c51, _⟩ := cl_cells h.at'
  have hqs : q ≠ w.heap.size := Nat.ne_of_lt (lt_of_get h.at')
  have hgs : m0.g ≠ w.heap.size := Nat.ne_of_lt (h.ok0.row.lt _ rfl).2
  have c21 : w.cell? ⟨q, 21, none⟩ = some (.slice (some ⟨m0.g, 0, none⟩) 1 m0.c) := by
    have := At0.of_block h.at' 21 m0.val rfl
    simpa [Mg.val] using this
  have hE := owns_ent h.ok0.row
  have hid : w.rangeAt m0.g 0 (id.map (Value.int .u8)) := fun j u hj => hE j u (by
    unfold Mg.ent ent20
    rw [List.getElem?_append_left (by have := (List.getElem?_eq_some_iff.1 hj).1; simpa using this)]
    exact hj)
  have hi16 : ((Try.prog).info? 34).map (·.size) = some (id.map (Value.int .u8)).length := by rw [List.length_map, h16]; kernel_rfl
  have hz16 : (zid.map (Value.int .u8)).length = (id.map (Value.int .u8)).length := by rw [List.length_map, List.length_map, h16]; rfl
  have hone : ∀ u ∈ id.map (Value.int .u8), u.oneCell' = true := fun u hu => by obtain ⟨x, _, rfl⟩ := List.mem_map.1 hu; rfl
  obtain ⟨I, hI⟩ : ∃ I, id.map (Value.int .u8) = I := ⟨_, rfl⟩
  rw [hI] at hid hi16 hz16 hone ⊢
  clear hI h16 h hE
  go_enter Try.func7, Try.ntmps7
  go_upto_region 1 with (fail)
  refine name_wp (fun w1 => Below w.heap.size w w1 ∧ w1.heap[w.heap.size]? = some (.cells (zid.map (Value.int .u8)).toArray 34 (0, 0))) ⟨(Below.refl _ _).alloc (Nat.le_refl _) _, alloc_at rfl⟩ ?_
  rintro w1 ⟨hbA, k0'⟩
  have d51 := (hbA.cell (World.block_lt_of_cell? _ _ c51)).trans c51
  have d21 := (hbA.cell (World.block_lt_of_cell? _ _ c21)).trans c21
  have did : w1.rangeAt m0.g 0 I := fun j u hj => (hbA.cell (World.block_lt_of_cell? _ _ (hid j u hj))).trans (hid j u hj)
  clear c51 c21 hid
  replace hbA := Lib.hid hbA
  go_wp2
  refine segS_start (gb := fun b => b ≠ w.heap.size) 15 (by kernel_rfl) (by decide) ?_
  intro v0 hv
  have k3 := keeps hv k0'
  replace hbA := Lib.hid (below_next hbA.out hbA.out.size hv)
  replace d21 := (hv.cell (World.block_lt_of_cell? _ _ d21)).trans d21
  replace d51 := (hv.cell (World.block_lt_of_cell? _ _ d51)).trans d51
  replace did : v0.rangeAt m0.g 0 I := fun j u hj => (hv.cell (World.block_lt_of_cell? _ _ (did j u hj))).trans (did j u hj)
  clear hv k0'
  refine segS_batch 2 [0, 1, 2, 3, 4, 5, 6, 7, 8, 9, 10, 11, 12] (by kernel_rfl) rfl (by kernel_rfl) (by kernel_rfl) (by kernel_rfl) ?_
  apply Exists.intro
  refine ⟨fun ι _ φ hφ => ?_, fun v1 hv => ?_⟩
  · have e21 := fun i => (World.cell?_of_block ((hφ.old i).block _ (World.block_lt_of_cell? _ _ d21) hqs)).trans d21
    have e51 := fun i => (World.cell?_of_block ((hφ.old i).block _ (World.block_lt_of_cell? _ _ d51) hqs)).trans d51
    repeat (refine pick_step rfl ?_; first
      | (refine quiet_load_mid _ _ _ 0 _ _ rfl rfl rfl (fun w9 ⟨i, e⟩ j v hj => by subst e; rw [World.cell?_of_block ((hφ.old i).block _ (World.block_lt_of_cell? _ _ (did j v hj)) hgs)]; exact did j v hj) Try.underlying34 rfl hi16 ?_; simp only [Act.put, List.setIfInBounds_toArray, List.set_cons_succ, List.set_cons_zero])
      | go_big_quiet_step (fail))
    exact pick_end
  replace k3 := keeps hv k3
  replace hbA := Lib.hid (below_next hbA.out hbA.out.size hv)
  clear hv d21 d51 did
  refine segS_one 13 _ (by decide) rfl (by kernel_rfl) ?_
  intro v2 K hv hK
  replace k3 := keeps hv k3
  replace hbA := Lib.hid (below_next hbA.out hbA.out.size hv)
  clear hv
  replace hK := Lib.hid hK
  have hbut : But w.heap.size v2 (v2.setCells w.heap.size 0 I) := (But.refl w.heap.size v2).setCells I 0 v2
  have k7 : (v2.setCells w.heap.size 0 I).heap[w.heap.size]? = some (.cells I.toArray 34 (0, 0)) := by
    rw [heap_setCells _ _ _ _ _ _ _ k3, build_one _ _ (by simpa using hz16)]
  rw [if_pos (by kernel_rfl)]
  refine wp_store_mid 34 _ _ rfl w.heap.size 0 I.toArray rfl rfl (fun j hj => ?_) (by simpa using hi16) (by simpa using hone) (hK.out _ _ ⟨hbut.os, hbut.tape, hbut.output, hbut.size, fun b hb hne => hbut.block b hb hne⟩ ?_)
  · have hj' : j < (zid.map (Value.int .u8)).length := by rw [hz16]; simpa using hj
    have hj2 : j < 16 := hj'
    simp [World.cell?, World.frozen?, k3]
    simpa using hj'
  have hbe : Below w.heap.size w (v2.setCells w.heap.size 0 I) := hbut.below hbA.out (Nat.le_refl _) hbA.out.size
  clear hK K hbut k3 hbA
  generalize v2.setCells w.heap.size 0 I = v3 at *
  rw [put_noneU]
  refine segS_batch 0 [14] (by kernel_rfl) rfl (by kernel_rfl) (by kernel_rfl) (by kernel_rfl) ?_
  apply Exists.intro
  refine ⟨fun ι _ φ hφ => ?_, fun v4 hv => ?_⟩
  · repeat (refine pick_step rfl ?_; go_big_quiet_step (fail))
    exact pick_end
  replace k7 := keeps hv k7
  replace hbe := below_next hbe hbe.size hv
  clear hv
  refine segS_done rfl (by kernel_rfl) ?_
  intro v5 hv
  replace k7 := keeps hv k7
  replace hbe := below_next hbe hbe.size hv
  clear hv
  go_wp2
  have hld := loadVar_whole (P := Try.prog) (ty := 34) (cs := I) _ (At0.of_block k7) Try.underlying34 rfl hi16
  refine bodyPost_ret (v := .tuple #[.agg I.toArray, .int .i64 sent]) (results_cell_tmpU Try.results7 rfl hld rfl) rfl ⟨rfl, hbe⟩
end Go.Proofs.Ytehjfilnfpkjkaa
