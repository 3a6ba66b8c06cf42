/-
  Totals: the fixed fact.
-/
import Derived.Test.YtpojhomccmfffaaDoorTtI
import Derived.Test.YtpojhomccmfffaaDoorBA
namespace Go.Proofs.YtpojhomccmfffaaDoor
open Go.RowKit Flow F
set_option linter.unusedVariables false
set_option linter.unusedSimpArgs false

theorem chk_lim (ns : List Nat) : Lim8 (chk ns) := fun i _ => by
  show outF _ < 256
  unfold outF
  exact Nat.mod_lt _ (by decide)
theorem zero_lim : Lim8 (fun _ => 0) := fun i _ => (by decide : 0 < 256)
theorem xor_zero (f : Nat → Nat) : xorF (fun _ => 0) f = f := funext fun i => Nat.zero_xor _
theorem arr8_ints' (h : Nat → Nat) (n : Nat) : arr8 h n = ((List.range n).map (fun i => ((h i : Nat) : Int))).map (Value.int .u8) := by
  unfold arr8
  rw [List.map_map]
  rfl
theorem eqlIn_chk {t : TypeId} (ht : Tryd.prog.underlying t = some (.array 16 5)) (f g : Nat → Nat) (d : Nat) (w : World) : (Op.equalIn (d + 2) t (.agg (arr8 f 16).toArray) (.agg (arr8 g 16).toArray)).run Tryd.prog w = .ok (((List.range 16).map (fun i => ((f i : Nat) : Int))) == ((List.range 16).map (fun i => ((g i : Nat) : Int)))) w := by
  rw [arr8_ints', arr8_ints']
  exact run_equalIn_ints (P := Tryd.prog) (t := t) (e := 5) (n := 16) (k := .u8) ht Tryd.underlying5 (fun w => Tryd.sizeOf5 w) d _ _ (by simp) (by simp) w
/-- Two checks are one. -/
def sameC (f g : Nat → Nat) : Bool := ((List.range 16).map (fun i => ((f i : Nat) : Int))) == ((List.range 16).map (fun i => ((g i : Nat) : Int)))
theorem sameC_refl (f : Nat → Nat) : sameC f f = true := by unfold sameC; exact beq_self_eq_true _
theorem sameC_congr {f g : Nat → Nat} (h : ∀ i, i < 16 → f i = g i) : sameC f g = true := by
  unfold sameC
  rw [beq_iff_eq]
  exact List.map_congr_left fun i hi => by rw [h i (List.mem_range.1 hi)]
theorem eql_chk {t : TypeId} (ht : Tryd.prog.underlying t = some (.array 16 5)) (f g : Nat → Nat) (w : World) : (binOp .eql t (.agg (arr8 f 16).toArray) (.agg (arr8 g 16).toArray)).run Tryd.prog w = .ok (.bool (sameC f g)) w := by
  have h := eqlIn_chk ht f g 9998 w
  change _ = Result.ok (sameC f g) w at h
  simp only [binOp]
  simp [Op.equal, Op.maxDepth, h]
theorem neq_chk {t : TypeId} (ht : Tryd.prog.underlying t = some (.array 16 5)) (f g : Nat → Nat) (w : World) : (binOp .neq t (.agg (arr8 f 16).toArray) (.agg (arr8 g 16).toArray)).run Tryd.prog w = .ok (.bool (!sameC f g)) w := by
  have h := eqlIn_chk ht f g 9998 w
  change _ = Result.ok (sameC f g) w at h
  simp only [binOp]
  simp [Op.equal, Op.maxDepth, h]
theorem eqlIn_chkC (f g : Nat → Nat) (w : World) : (Op.equalIn 10000 37 (.agg (arr8 f 16).toArray) (.agg (arr8 g 16).toArray)).run Tryd.prog w = .ok (sameC f g) w := eqlIn_chk Tryd.underlying37 f g 9998 w
/-- The first of circuits, the task of noughts. -/
def ci1 : Ci := ⟨1, 1, 0, 0, 0, 0⟩
theorem ci1_small : smallC 0 0 0 0 0 0 = ci1 := by simp [smallC, ci1]
theorem ci1_good : ci1.Good := Ci.good (by decide)
theorem task1_good : TGood ci1 1 ⟨#[]⟩ := ⟨ci1_good, by decide, by decide, by decide⟩
theorem task_nul (w : World) : Calls Tryd.prog 12 #[.agg #[.int .u8 0, .int .u8 0, .int .u8 0, .int .u8 0, .int .u8 0, .int .u8 0, .int .u8 0, .int .u8 0]] w fun e w' => e = .returned (.agg (tcl ci1 1 ⟨#[]⟩).toArray) ∧ Below w.heap.size w w' := by
  have h := task_any 0 0 0 0 0 0 0 0 (by decide) (by decide) (by decide) (by decide) (by decide) (by decide) (by decide) (by decide) (by decide) (by decide) (by decide) (by decide) (by decide) (by decide) (by decide) (by decide) w
  rw [ci1_small] at h
  exact h
def id1 : List Nat := [1, 0, 0, 0, 0, 0, 0, 0, 0, 0, 0, 0, 0, 0, 0, 0]
theorem id1_ok : IdOK id1 := ⟨rfl, by decide⟩
theorem idc1 : (idc id1).toArray = #[.int .u8 1, .int .u8 0, .int .u8 0, .int .u8 0, .int .u8 0, .int .u8 0, .int .u8 0, .int .u8 0, .int .u8 0, .int .u8 0, .int .u8 0, .int .u8 0, .int .u8 0, .int .u8 0, .int .u8 0, .int .u8 0] := rfl
attribute [local go_sem] eql_elem eqlIn_chkC
set_option maxRecDepth 20000 in
set_option maxHeartbeats 8000000 in
theorem tawake_ok (w : World) (hT : Tabs w) : Calls Tryd.prog 11 #[] w fun e w' => e = .returned (.bool true) ∧ Below w.heap.size w w' := by
  have hS := Lib.hid (fun w => task_nul w)
  have hN := Lib.hid (fun w => (tnew_ok ci1 1 ⟨#[]⟩ task1_good 1 (by decide) (by decide) w : Calls Tryd.prog 19 #[.agg (tcl ci1 1 ⟨#[]⟩).toArray] w _))
  have hA := Lib.hid (fun (w : World) g q hT hr1 hr2 => (tadd_ok ci1 1 ⟨#[]⟩ task1_good [0] [5] (some ⟨g, 0, none⟩) (some ⟨q, 0, none⟩) 1 1 1 1 0 (fun _ => 0) id1 id1_ok (by decide) (by decide) rfl (fun x hx => by simp at hx; omega) (fun x hx => by simp at hx; omega) rfl rfl zero_lim (chk_lim _) w hT (Row.elems hr1) (Row.elems hr2) : Calls Tryd.prog 25 #[.agg (tot (.slice (some ⟨g, 0, none⟩) 1 1) 0 (fun _ => 0)).toArray, .agg (tcl ci1 1 ⟨#[]⟩).toArray, .agg #[.int .u8 1, .int .u8 0, .int .u8 0, .int .u8 0, .int .u8 0, .int .u8 0, .int .u8 0, .int .u8 0, .int .u8 0, .int .u8 0, .int .u8 0, .int .u8 0, .int .u8 0, .int .u8 0, .int .u8 0, .int .u8 0], .slice (some ⟨q, 0, none⟩) 1 1] w _))
  have hI := Lib.hid (fun w hT => (ofId_ok id1 id1_ok w hT : Calls Tryd.prog 44 #[.agg #[.int .u8 1, .int .u8 0, .int .u8 0, .int .u8 0, .int .u8 0, .int .u8 0, .int .u8 0, .int .u8 0, .int .u8 0, .int .u8 0, .int .u8 0, .int .u8 0, .int .u8 0, .int .u8 0, .int .u8 0, .int .u8 0]] w _))
  rw [show xorF (fun _ => 0) (chk id1) = chk id1 from xor_zero _, show List.zipWith (add ci1.f) [0] [5] = [5] by decide] at hA
  unfold totv at hA hN
  generalize chk id1 = H at *
  have hsc := sameC_refl H
  replace hT := Lib.hid hT
  go_enter Tryd.func11, Tryd.ntmps11
  go_upto_region 2 with (first
    | (go_at_call 12; refine call_then (hS.out _) ?_; intro w1 hb; have hb0 := hb; have hbA := hb.alloc hb.size (.cells (tcl ⟨0, 0, 0, 0, 0, 0⟩ 0 ⟨#[]⟩).toArray 33 (0, 0)))
    | (refine list_store_whole _ _ _ _ (tcl ci1 1 ⟨#[]⟩) (tcl ⟨0, 0, 0, 0, 0, 0⟩ 0 ⟨#[]⟩) 33 rfl rfl rfl rfl (alloc_at rfl) rfl (by kernel_rfl) (one_tcl _ _ _) ?_; intro w2 hbut k0))
  have hb1 := hbut.below hbA hb.size hbA.size
  obtain ⟨q, hq⟩ : ∃ q, w1.heap.size = q := ⟨_, rfl⟩
  rw [hq] at k0 ⊢
  replace hb := hb1
  have hqw : w.heap.size ≤ q := by rw [← hq]; exact hb0.size
  clear hbut hb1 hbA hb0 hq hS
  refine segS_start (gb := fun k => k ≤ q) 13 (by kernel_rfl) (by decide) ?_
  intro v0 hv
  replace k0 := keeps hv k0
  replace hb := below_next hb (by have := hb.size; omega) hv
  try (replace hr := hr.up hv)
  try (replace hr5 := hr5.up hv)
  try (replace hr2 := hr2.up hv)
  try (replace k7 := keeps hv k7)
  clear hv
  refine segS_batch 9 [0, 2, 3, 4] (by kernel_rfl) rfl (by kernel_rfl) (by kernel_rfl) (by kernel_rfl) ?_
  apply Exists.intro
  refine ⟨fun ι _ φ hφ => ?_, fun v4 hv => ?_⟩
  · repeat (refine pick_step rfl ?_; first
      | (refine quiet_load_mid _ _ _ 0 _ _ rfl rfl rfl (mid_familyT hφ (At0.of_block k0) (Nat.le_refl _)) Tryd.underlying33 rfl (by kernel_rfl) ?_; simp only [Act.put, List.setIfInBounds_toArray, List.set_cons_succ, List.set_cons_zero])
      | go_big_quiet_step (fail))
    exact pick_end
  replace k0 := keeps hv k0
  replace hb := below_next hb (by have := hb.size; omega) hv
  try (replace hr := hr.up hv)
  try (replace hr5 := hr5.up hv)
  try (replace hr2 := hr2.up hv)
  try (replace k7 := keeps hv k7)
  clear hv
  refine segS_more [1, 5, 10] (by kernel_rfl) (by decide) ?_
  intro j hj
  simp only [List.mem_cons, List.not_mem_nil, or_false] at hj
  rcases hj with rfl | rfl | rfl
  · refine ⟨by decide, _, rfl, ?_⟩
    intro v2 K2 hv hK
    replace k0 := keeps hv k0
    replace hb := below_next hb (by have := hb.size; omega) hv
    try (replace hr := hr.up hv)
    try (replace hr5 := hr5.up hv)
    try (replace hr2 := hr2.up hv)
    try (replace k7 := keeps hv k7)
    clear hv
    replace hK := Lib.hid hK
    go_simp
    refine (hN.out _).mono ?_
    rintro e v3 ⟨g, rfl, hv, hg, hr⟩
    refine hK.out _ _ (HeldS.of_below hv) ?_
    have hgw : w.heap.size ≤ g := by have := hb.size; omega
    clear hK K2 hg
    replace k0 := keeps hv k0
    replace hb := below_next hb (by have := hb.size; omega) hv
    try (replace hr := hr.up hv)
    try (replace hr5 := hr5.up hv)
    try (replace hr2 := hr2.up hv)
    try (replace k7 := keeps hv k7)
    clear hv
    refine segS_more [5, 10] (by kernel_rfl) (by decide) ?_
    intro j hj
    simp only [List.mem_cons, List.not_mem_nil, or_false] at hj
    rcases hj with rfl | rfl
    · refine ⟨by decide, _, rfl, ?_⟩
      intro v5 K2 hv hK
      replace k0 := keeps hv k0
      replace hb := below_next hb (by have := hb.size; omega) hv
      try (replace hr := hr.up hv)
      try (replace hr5 := hr5.up hv)
      try (replace hr2 := hr2.up hv)
      try (replace k7 := keeps hv k7)
      clear hv
      replace hK := Lib.hid hK
      go_simp
      have hv := (Below.refl v5.heap.size v5).alloc (Nat.le_refl _) (.cells #[.int .u64 5, .int .u64 0] 65 (0, 0))
      refine hK.out _ _ (HeldS.of_below hv) ?_
      clear hK K2
      have hr5 : Row (v5.alloc (.cells #[.int .u64 5, .int .u64 0] 65 (0, 0))) v5.heap.size [5] := alloc_at rfl
      replace k0 := keeps hv k0
      replace hb := below_next hb (by have := hb.size; omega) hv
      try (replace hr := hr.up hv)
      try (replace hr5 := hr5.up hv)
      try (replace hr2 := hr2.up hv)
      try (replace k7 := keeps hv k7)
      clear hv
      generalize v5.alloc (.cells #[.int .u64 5, .int .u64 0] 65 (0, 0)) = v6 at *
      generalize v5.heap.size = q5 at *
      refine segS_more [6, 10] (by kernel_rfl) (by decide) ?_
      intro j hj
      simp only [List.mem_cons, List.not_mem_nil, or_false] at hj
      rcases hj with rfl | rfl
      · refine ⟨by decide, _, rfl, ?_⟩
        intro v9 K2 hv hK
        replace k0 := keeps hv k0
        replace hb := below_next hb (by have := hb.size; omega) hv
        try (replace hr := hr.up hv)
        try (replace hr5 := hr5.up hv)
        try (replace hr2 := hr2.up hv)
        try (replace k7 := keeps hv k7)
        clear hv
        have hA2 := Lib.hid (hA.out v9 g q5 (hT.out.up hb) hr hr5)
        replace hK := Lib.hid hK
        go_simp
        refine hA2.out.mono ?_
        rintro e vb ⟨g2, rfl, hv, hg2, hr2⟩
        refine hK.out _ _ (HeldS.of_below hv) ?_
        have hgw2 : w.heap.size ≤ g2 := by have := hb.size; omega
        try (have h72 := Nat.lt_of_lt_of_le (lt_of_get k7) hg2)
        clear hK hA2 K2 hr hr5 hg2
        replace k0 := keeps hv k0
        replace hb := below_next hb (by have := hb.size; omega) hv
        try (replace hr := hr.up hv)
        try (replace hr5 := hr5.up hv)
        try (replace hr2 := hr2.up hv)
        try (replace k7 := keeps hv k7)
        clear hv
        refine segS_batch 3 [7, 8, 9] (by kernel_rfl) rfl (by kernel_rfl) (by kernel_rfl) (by kernel_rfl) ?_
        apply Exists.intro
        refine ⟨fun ι _ φ hφ => ?_, fun v4 hv => ?_⟩
        · iterate 3 (refine pick_step rfl ?_; go_big_quiet_step (fail))
          exact pick_end
        replace k0 := keeps hv k0
        replace hb := below_next hb (by have := hb.size; omega) hv
        try (replace hr := hr.up hv)
        try (replace hr5 := hr5.up hv)
        try (replace hr2 := hr2.up hv)
        try (replace k7 := keeps hv k7)
        clear hv
        refine segS_one 10 _ (by decide) rfl (by kernel_rfl) ?_
        intro v7 K2 hv hK
        replace k0 := keeps hv k0
        replace hb := below_next hb (by have := hb.size; omega) hv
        try (replace hr := hr.up hv)
        try (replace hr5 := hr5.up hv)
        try (replace hr2 := hr2.up hv)
        try (replace k7 := keeps hv k7)
        clear hv
        replace hK := Lib.hid hK
        go_simp
        have hv := (Below.refl v7.heap.size v7).alloc (Nat.le_refl _) (.cells #[.slice none 0 0, .int .i64 0, .int .u8 0, .int .u8 0, .int .u8 0, .int .u8 0, .int .u8 0, .int .u8 0, .int .u8 0, .int .u8 0, .int .u8 0, .int .u8 0, .int .u8 0, .int .u8 0, .int .u8 0, .int .u8 0, .int .u8 0, .int .u8 0] 39 (0, 0))
        refine hK.out _ _ (HeldS.of_below hv) ?_
        clear hK K2
        have k7 : (v7.alloc (.cells #[.slice none 0 0, .int .i64 0, .int .u8 0, .int .u8 0, .int .u8 0, .int .u8 0, .int .u8 0, .int .u8 0, .int .u8 0, .int .u8 0, .int .u8 0, .int .u8 0, .int .u8 0, .int .u8 0, .int .u8 0, .int .u8 0, .int .u8 0, .int .u8 0] 39 (0, 0))).heap[v7.heap.size]? = some (.cells noTot.toArray 39 (0, 0)) := alloc_at rfl
        have hq7 : w.heap.size ≤ v7.heap.size := hb.size
        have hqq : q < v7.heap.size := lt_of_get k0
        try (have h72 : g2 < v7.heap.size := lt_of_get hr2)
        replace k0 := keeps hv k0
        replace hb := below_next hb (by have := hb.size; omega) hv
        try (replace hr := hr.up hv)
        try (replace hr5 := hr5.up hv)
        try (replace hr2 := hr2.up hv)
        try (replace k7 := keeps hv k7)
        clear hv
        generalize v7.alloc (.cells #[.slice none 0 0, .int .i64 0, .int .u8 0, .int .u8 0, .int .u8 0, .int .u8 0, .int .u8 0, .int .u8 0, .int .u8 0, .int .u8 0, .int .u8 0, .int .u8 0, .int .u8 0, .int .u8 0, .int .u8 0, .int .u8 0, .int .u8 0, .int .u8 0] 39 (0, 0)) = v8 at *
        generalize v7.heap.size = q7 at *
        refine segS_one 11 _ (by decide) rfl (by kernel_rfl) ?_
        intro vc K2 hv hK
        replace k0 := keeps hv k0
        replace hb := below_next hb (by have := hb.size; omega) hv
        try (replace hr := hr.up hv)
        try (replace hr5 := hr5.up hv)
        try (replace hr2 := hr2.up hv)
        try (replace k7 := keeps hv k7)
        clear hv
        replace hK := Lib.hid hK
        obtain ⟨I, hI2⟩ : ∃ I, tot (.slice (some ⟨g2, 0, none⟩) 1 1) (0 + 1) H = I := ⟨_, rfl⟩
        have hIl : I.length = 18 := by rw [← hI2]; exact tot_len _ _ _
        have hone : ∀ u ∈ I, u.oneCell' = true := by rw [← hI2]; exact one_tot _ _
        have hbut : But q7 vc (vc.setCells q7 0 I) := (But.refl q7 vc).setCells I 0 vc
        have k8 : (vc.setCells q7 0 I).heap[q7]? = some (.cells I.toArray 39 (0, 0)) := by
          rw [heap_setCells _ _ _ _ _ _ _ k7, build_one _ _ (by rw [hIl]; rfl)]
        rw [if_pos (by kernel_rfl)]
        refine wp_store_mid 39 _ _ rfl q7 0 I.toArray rfl (by rw [← hI2]; rfl) (fun j hj => ?_) (by simp only [List.size_toArray, hIl]; exact info_total) (by simpa using hone) (hK.out _ _ ⟨hbut.os, hbut.tape, hbut.output, hbut.size, fun b hb hne => hbut.block b hb (by have : b ≤ q := hne; omega)⟩ ?_)
        · have hj' : j < 18 := by rw [← hIl]; simpa using hj
          simp [World.cell?, World.frozen?, k7]
          exact hj'
        have hbe : Below w.heap.size w (vc.setCells q7 0 I) := hbut.below hb hq7 hb.size
        have hr8 : Row (vc.setCells q7 0 I) g2 [5] := (hbut.block _ (lt_of_get hr2) (by omega)).trans hr2
        clear hK K2 hbut k7 hb hr2 k0
        generalize vc.setCells q7 0 I = vd at *
        rw [put_noneT]
        refine segS_batch 0 [12] (by kernel_rfl) rfl (by kernel_rfl) (by kernel_rfl) (by kernel_rfl) ?_
        apply Exists.intro
        refine ⟨fun ι _ φ hφ => ?_, fun v4 hv => ?_⟩
        · repeat (refine pick_step rfl ?_; go_big_quiet_step (fail))
          exact pick_end
        replace k8 := keeps hv k8
        replace hbe := below_next hbe hbe.size hv
        replace hr8 := hr8.up hv
        clear hv
        refine segS_done rfl (by kernel_rfl) ?_
        intro v5 hv
        replace k8 := keeps hv k8
        replace hbe := below_next hbe hbe.size hv
        replace hr8 := hr8.up hv
        clear hv
        subst hI2
        have hT8 := hT.out.up hbe
        have s0 := At0.of_block k8 0 (.slice (some ⟨g2, 0, none⟩) 1 1) rfl
        have s1 := At0.of_block k8 1 (.int .i64 (0 + 1)) rfl
        have s2 := sub_range (At0.of_block k8) 2 _ (tot_chk _ _ _)
        simp only [Nat.zero_add] at s0 s1
        go_wp2
        refine wp_region_flow0 (by kernel_rfl) (by kernel_rfl) ?_
        intro ι _ φ hφ
        have hT9 := Lib.hid (fun i => hT8.up (hφ.old i))
        have e0 := fun i => hφ.cell s0 i
        have e1 := fun i => hφ.cell s1 i
        have e3 : ∀ i, (φ i).cell? ⟨g2, 0, none⟩ = some (.int .u64 5) := fun i => hφ.cell (hr8.lo (k := 0) (by decide)) i
        have e4 : ∀ i, (φ i).cell? ⟨g2, 0 + 1, none⟩ = some (.int .u64 0) := fun i => hφ.cell (hr8.hi (k := 0) (by decide)) i
        clear hT8
        repeat (first
          | (refine quiet_load_mid _ _ _ 2 _ _ rfl rfl rfl (mid_family hφ s2) Tryd.underlying37 rfl (by rw [arr8_len]; kernel_rfl) ?_; simp only [Act.put, List.setIfInBounds_toArray, List.set_cons_succ, List.set_cons_zero])
          | go_big_quiet_step ((go_at_call 44; exact flow_call hφ (hI.out _ (hT9.out _)))))
        refine wpQuiet_nil ?_
        intro wz hv
        replace hbe := below_next hbe hbe.size hv
        clear hv
        go_wp2
        go_ret
        exact ⟨rfl, hbe⟩
      · refine ⟨by decide, _, rfl, ?_⟩
        intro v7 K2 hv hK
        replace k0 := keeps hv k0
        replace hb := below_next hb (by have := hb.size; omega) hv
        try (replace hr := hr.up hv)
        try (replace hr5 := hr5.up hv)
        try (replace hr2 := hr2.up hv)
        try (replace k7 := keeps hv k7)
        clear hv
        replace hK := Lib.hid hK
        go_simp
        have hv := (Below.refl v7.heap.size v7).alloc (Nat.le_refl _) (.cells #[.slice none 0 0, .int .i64 0, .int .u8 0, .int .u8 0, .int .u8 0, .int .u8 0, .int .u8 0, .int .u8 0, .int .u8 0, .int .u8 0, .int .u8 0, .int .u8 0, .int .u8 0, .int .u8 0, .int .u8 0, .int .u8 0, .int .u8 0, .int .u8 0] 39 (0, 0))
        refine hK.out _ _ (HeldS.of_below hv) ?_
        clear hK K2
        have k7 : (v7.alloc (.cells #[.slice none 0 0, .int .i64 0, .int .u8 0, .int .u8 0, .int .u8 0, .int .u8 0, .int .u8 0, .int .u8 0, .int .u8 0, .int .u8 0, .int .u8 0, .int .u8 0, .int .u8 0, .int .u8 0, .int .u8 0, .int .u8 0, .int .u8 0, .int .u8 0] 39 (0, 0))).heap[v7.heap.size]? = some (.cells noTot.toArray 39 (0, 0)) := alloc_at rfl
        have hq7 : w.heap.size ≤ v7.heap.size := hb.size
        have hqq : q < v7.heap.size := lt_of_get k0
        try (have h72 : g2 < v7.heap.size := lt_of_get hr2)
        replace k0 := keeps hv k0
        replace hb := below_next hb (by have := hb.size; omega) hv
        try (replace hr := hr.up hv)
        try (replace hr5 := hr5.up hv)
        try (replace hr2 := hr2.up hv)
        try (replace k7 := keeps hv k7)
        clear hv
        generalize v7.alloc (.cells #[.slice none 0 0, .int .i64 0, .int .u8 0, .int .u8 0, .int .u8 0, .int .u8 0, .int .u8 0, .int .u8 0, .int .u8 0, .int .u8 0, .int .u8 0, .int .u8 0, .int .u8 0, .int .u8 0, .int .u8 0, .int .u8 0, .int .u8 0, .int .u8 0] 39 (0, 0)) = v8 at *
        generalize v7.heap.size = q7 at *
        refine segS_one 6 _ (by decide) rfl (by kernel_rfl) ?_
        intro v9 K2 hv hK
        replace k0 := keeps hv k0
        replace hb := below_next hb (by have := hb.size; omega) hv
        try (replace hr := hr.up hv)
        try (replace hr5 := hr5.up hv)
        try (replace hr2 := hr2.up hv)
        try (replace k7 := keeps hv k7)
        clear hv
        have hA2 := Lib.hid (hA.out v9 g q5 (hT.out.up hb) hr hr5)
        replace hK := Lib.hid hK
        go_simp
        refine hA2.out.mono ?_
        rintro e vb ⟨g2, rfl, hv, hg2, hr2⟩
        refine hK.out _ _ (HeldS.of_below hv) ?_
        have hgw2 : w.heap.size ≤ g2 := by have := hb.size; omega
        try (have h72 := Nat.lt_of_lt_of_le (lt_of_get k7) hg2)
        clear hK hA2 K2 hr hr5 hg2
        replace k0 := keeps hv k0
        replace hb := below_next hb (by have := hb.size; omega) hv
        try (replace hr := hr.up hv)
        try (replace hr5 := hr5.up hv)
        try (replace hr2 := hr2.up hv)
        try (replace k7 := keeps hv k7)
        clear hv
        refine segS_batch 2 [7, 8, 9] (by kernel_rfl) rfl (by kernel_rfl) (by kernel_rfl) (by kernel_rfl) ?_
        apply Exists.intro
        refine ⟨fun ι _ φ hφ => ?_, fun v4 hv => ?_⟩
        · iterate 3 (refine pick_step rfl ?_; go_big_quiet_step (fail))
          exact pick_end
        replace k0 := keeps hv k0
        replace hb := below_next hb (by have := hb.size; omega) hv
        try (replace hr := hr.up hv)
        try (replace hr5 := hr5.up hv)
        try (replace hr2 := hr2.up hv)
        try (replace k7 := keeps hv k7)
        clear hv
        refine segS_one 11 _ (by decide) rfl (by kernel_rfl) ?_
        intro vc K2 hv hK
        replace k0 := keeps hv k0
        replace hb := below_next hb (by have := hb.size; omega) hv
        try (replace hr := hr.up hv)
        try (replace hr5 := hr5.up hv)
        try (replace hr2 := hr2.up hv)
        try (replace k7 := keeps hv k7)
        clear hv
        replace hK := Lib.hid hK
        obtain ⟨I, hI2⟩ : ∃ I, tot (.slice (some ⟨g2, 0, none⟩) 1 1) (0 + 1) H = I := ⟨_, rfl⟩
        have hIl : I.length = 18 := by rw [← hI2]; exact tot_len _ _ _
        have hone : ∀ u ∈ I, u.oneCell' = true := by rw [← hI2]; exact one_tot _ _
        have hbut : But q7 vc (vc.setCells q7 0 I) := (But.refl q7 vc).setCells I 0 vc
        have k8 : (vc.setCells q7 0 I).heap[q7]? = some (.cells I.toArray 39 (0, 0)) := by
          rw [heap_setCells _ _ _ _ _ _ _ k7, build_one _ _ (by rw [hIl]; rfl)]
        rw [if_pos (by kernel_rfl)]
        refine wp_store_mid 39 _ _ rfl q7 0 I.toArray rfl (by rw [← hI2]; rfl) (fun j hj => ?_) (by simp only [List.size_toArray, hIl]; exact info_total) (by simpa using hone) (hK.out _ _ ⟨hbut.os, hbut.tape, hbut.output, hbut.size, fun b hb hne => hbut.block b hb (by have : b ≤ q := hne; omega)⟩ ?_)
        · have hj' : j < 18 := by rw [← hIl]; simpa using hj
          simp [World.cell?, World.frozen?, k7]
          exact hj'
        have hbe : Below w.heap.size w (vc.setCells q7 0 I) := hbut.below hb hq7 hb.size
        have hr8 : Row (vc.setCells q7 0 I) g2 [5] := (hbut.block _ (lt_of_get hr2) (by omega)).trans hr2
        clear hK K2 hbut k7 hb hr2 k0
        generalize vc.setCells q7 0 I = vd at *
        rw [put_noneT]
        refine segS_batch 0 [12] (by kernel_rfl) rfl (by kernel_rfl) (by kernel_rfl) (by kernel_rfl) ?_
        apply Exists.intro
        refine ⟨fun ι _ φ hφ => ?_, fun v4 hv => ?_⟩
        · repeat (refine pick_step rfl ?_; go_big_quiet_step (fail))
          exact pick_end
        replace k8 := keeps hv k8
        replace hbe := below_next hbe hbe.size hv
        replace hr8 := hr8.up hv
        clear hv
        refine segS_done rfl (by kernel_rfl) ?_
        intro v5 hv
        replace k8 := keeps hv k8
        replace hbe := below_next hbe hbe.size hv
        replace hr8 := hr8.up hv
        clear hv
        subst hI2
        have hT8 := hT.out.up hbe
        have s0 := At0.of_block k8 0 (.slice (some ⟨g2, 0, none⟩) 1 1) rfl
        have s1 := At0.of_block k8 1 (.int .i64 (0 + 1)) rfl
        have s2 := sub_range (At0.of_block k8) 2 _ (tot_chk _ _ _)
        simp only [Nat.zero_add] at s0 s1
        go_wp2
        refine wp_region_flow0 (by kernel_rfl) (by kernel_rfl) ?_
        intro ι _ φ hφ
        have hT9 := Lib.hid (fun i => hT8.up (hφ.old i))
        have e0 := fun i => hφ.cell s0 i
        have e1 := fun i => hφ.cell s1 i
        have e3 : ∀ i, (φ i).cell? ⟨g2, 0, none⟩ = some (.int .u64 5) := fun i => hφ.cell (hr8.lo (k := 0) (by decide)) i
        have e4 : ∀ i, (φ i).cell? ⟨g2, 0 + 1, none⟩ = some (.int .u64 0) := fun i => hφ.cell (hr8.hi (k := 0) (by decide)) i
        clear hT8
        repeat (first
          | (refine quiet_load_mid _ _ _ 2 _ _ rfl rfl rfl (mid_family hφ s2) Tryd.underlying37 rfl (by rw [arr8_len]; kernel_rfl) ?_; simp only [Act.put, List.setIfInBounds_toArray, List.set_cons_succ, List.set_cons_zero])
          | go_big_quiet_step ((go_at_call 44; exact flow_call hφ (hI.out _ (hT9.out _)))))
        refine wpQuiet_nil ?_
        intro wz hv
        replace hbe := below_next hbe hbe.size hv
        clear hv
        go_wp2
        go_ret
        exact ⟨rfl, hbe⟩
    · refine ⟨by decide, _, rfl, ?_⟩
      intro v7 K2 hv hK
      replace k0 := keeps hv k0
      replace hb := below_next hb (by have := hb.size; omega) hv
      try (replace hr := hr.up hv)
      try (replace hr5 := hr5.up hv)
      try (replace hr2 := hr2.up hv)
      try (replace k7 := keeps hv k7)
      clear hv
      replace hK := Lib.hid hK
      go_simp
      have hv := (Below.refl v7.heap.size v7).alloc (Nat.le_refl _) (.cells #[.slice none 0 0, .int .i64 0, .int .u8 0, .int .u8 0, .int .u8 0, .int .u8 0, .int .u8 0, .int .u8 0, .int .u8 0, .int .u8 0, .int .u8 0, .int .u8 0, .int .u8 0, .int .u8 0, .int .u8 0, .int .u8 0, .int .u8 0, .int .u8 0] 39 (0, 0))
      refine hK.out _ _ (HeldS.of_below hv) ?_
      clear hK K2
      have k7 : (v7.alloc (.cells #[.slice none 0 0, .int .i64 0, .int .u8 0, .int .u8 0, .int .u8 0, .int .u8 0, .int .u8 0, .int .u8 0, .int .u8 0, .int .u8 0, .int .u8 0, .int .u8 0, .int .u8 0, .int .u8 0, .int .u8 0, .int .u8 0, .int .u8 0, .int .u8 0] 39 (0, 0))).heap[v7.heap.size]? = some (.cells noTot.toArray 39 (0, 0)) := alloc_at rfl
      have hq7 : w.heap.size ≤ v7.heap.size := hb.size
      have hqq : q < v7.heap.size := lt_of_get k0
      try (have h72 : g2 < v7.heap.size := lt_of_get hr2)
      replace k0 := keeps hv k0
      replace hb := below_next hb (by have := hb.size; omega) hv
      try (replace hr := hr.up hv)
      try (replace hr5 := hr5.up hv)
      try (replace hr2 := hr2.up hv)
      try (replace k7 := keeps hv k7)
      clear hv
      generalize v7.alloc (.cells #[.slice none 0 0, .int .i64 0, .int .u8 0, .int .u8 0, .int .u8 0, .int .u8 0, .int .u8 0, .int .u8 0, .int .u8 0, .int .u8 0, .int .u8 0, .int .u8 0, .int .u8 0, .int .u8 0, .int .u8 0, .int .u8 0, .int .u8 0, .int .u8 0] 39 (0, 0)) = v8 at *
      generalize v7.heap.size = q7 at *
      refine segS_one 5 _ (by decide) rfl (by kernel_rfl) ?_
      intro v5 K2 hv hK
      replace k0 := keeps hv k0
      replace hb := below_next hb (by have := hb.size; omega) hv
      try (replace hr := hr.up hv)
      try (replace hr5 := hr5.up hv)
      try (replace hr2 := hr2.up hv)
      try (replace k7 := keeps hv k7)
      clear hv
      replace hK := Lib.hid hK
      go_simp
      have hv := (Below.refl v5.heap.size v5).alloc (Nat.le_refl _) (.cells #[.int .u64 5, .int .u64 0] 65 (0, 0))
      refine hK.out _ _ (HeldS.of_below hv) ?_
      clear hK K2
      have hr5 : Row (v5.alloc (.cells #[.int .u64 5, .int .u64 0] 65 (0, 0))) v5.heap.size [5] := alloc_at rfl
      replace k0 := keeps hv k0
      replace hb := below_next hb (by have := hb.size; omega) hv
      try (replace hr := hr.up hv)
      try (replace hr5 := hr5.up hv)
      try (replace hr2 := hr2.up hv)
      try (replace k7 := keeps hv k7)
      clear hv
      generalize v5.alloc (.cells #[.int .u64 5, .int .u64 0] 65 (0, 0)) = v6 at *
      generalize v5.heap.size = q5 at *
      refine segS_one 6 _ (by decide) rfl (by kernel_rfl) ?_
      intro v9 K2 hv hK
      replace k0 := keeps hv k0
      replace hb := below_next hb (by have := hb.size; omega) hv
      try (replace hr := hr.up hv)
      try (replace hr5 := hr5.up hv)
      try (replace hr2 := hr2.up hv)
      try (replace k7 := keeps hv k7)
      clear hv
      have hA2 := Lib.hid (hA.out v9 g q5 (hT.out.up hb) hr hr5)
      replace hK := Lib.hid hK
      go_simp
      refine hA2.out.mono ?_
      rintro e vb ⟨g2, rfl, hv, hg2, hr2⟩
      refine hK.out _ _ (HeldS.of_below hv) ?_
      have hgw2 : w.heap.size ≤ g2 := by have := hb.size; omega
      try (have h72 := Nat.lt_of_lt_of_le (lt_of_get k7) hg2)
      clear hK hA2 K2 hr hr5 hg2
      replace k0 := keeps hv k0
      replace hb := below_next hb (by have := hb.size; omega) hv
      try (replace hr := hr.up hv)
      try (replace hr5 := hr5.up hv)
      try (replace hr2 := hr2.up hv)
      try (replace k7 := keeps hv k7)
      clear hv
      refine segS_batch 2 [7, 8, 9] (by kernel_rfl) rfl (by kernel_rfl) (by kernel_rfl) (by kernel_rfl) ?_
      apply Exists.intro
      refine ⟨fun ι _ φ hφ => ?_, fun v4 hv => ?_⟩
      · iterate 3 (refine pick_step rfl ?_; go_big_quiet_step (fail))
        exact pick_end
      replace k0 := keeps hv k0
      replace hb := below_next hb (by have := hb.size; omega) hv
      try (replace hr := hr.up hv)
      try (replace hr5 := hr5.up hv)
      try (replace hr2 := hr2.up hv)
      try (replace k7 := keeps hv k7)
      clear hv
      refine segS_one 11 _ (by decide) rfl (by kernel_rfl) ?_
      intro vc K2 hv hK
      replace k0 := keeps hv k0
      replace hb := below_next hb (by have := hb.size; omega) hv
      try (replace hr := hr.up hv)
      try (replace hr5 := hr5.up hv)
      try (replace hr2 := hr2.up hv)
      try (replace k7 := keeps hv k7)
      clear hv
      replace hK := Lib.hid hK
      obtain ⟨I, hI2⟩ : ∃ I, tot (.slice (some ⟨g2, 0, none⟩) 1 1) (0 + 1) H = I := ⟨_, rfl⟩
      have hIl : I.length = 18 := by rw [← hI2]; exact tot_len _ _ _
      have hone : ∀ u ∈ I, u.oneCell' = true := by rw [← hI2]; exact one_tot _ _
      have hbut : But q7 vc (vc.setCells q7 0 I) := (But.refl q7 vc).setCells I 0 vc
      have k8 : (vc.setCells q7 0 I).heap[q7]? = some (.cells I.toArray 39 (0, 0)) := by
        rw [heap_setCells _ _ _ _ _ _ _ k7, build_one _ _ (by rw [hIl]; rfl)]
      rw [if_pos (by kernel_rfl)]
      refine wp_store_mid 39 _ _ rfl q7 0 I.toArray rfl (by rw [← hI2]; rfl) (fun j hj => ?_) (by simp only [List.size_toArray, hIl]; exact info_total) (by simpa using hone) (hK.out _ _ ⟨hbut.os, hbut.tape, hbut.output, hbut.size, fun b hb hne => hbut.block b hb (by have : b ≤ q := hne; omega)⟩ ?_)
      · have hj' : j < 18 := by rw [← hIl]; simpa using hj
        simp [World.cell?, World.frozen?, k7]
        exact hj'
      have hbe : Below w.heap.size w (vc.setCells q7 0 I) := hbut.below hb hq7 hb.size
      have hr8 : Row (vc.setCells q7 0 I) g2 [5] := (hbut.block _ (lt_of_get hr2) (by omega)).trans hr2
      clear hK K2 hbut k7 hb hr2 k0
      generalize vc.setCells q7 0 I = vd at *
      rw [put_noneT]
      refine segS_batch 0 [12] (by kernel_rfl) rfl (by kernel_rfl) (by kernel_rfl) (by kernel_rfl) ?_
      apply Exists.intro
      refine ⟨fun ι _ φ hφ => ?_, fun v4 hv => ?_⟩
      · repeat (refine pick_step rfl ?_; go_big_quiet_step (fail))
        exact pick_end
      replace k8 := keeps hv k8
      replace hbe := below_next hbe hbe.size hv
      replace hr8 := hr8.up hv
      clear hv
      refine segS_done rfl (by kernel_rfl) ?_
      intro v5 hv
      replace k8 := keeps hv k8
      replace hbe := below_next hbe hbe.size hv
      replace hr8 := hr8.up hv
      clear hv
      subst hI2
      have hT8 := hT.out.up hbe
      have s0 := At0.of_block k8 0 (.slice (some ⟨g2, 0, none⟩) 1 1) rfl
      have s1 := At0.of_block k8 1 (.int .i64 (0 + 1)) rfl
      have s2 := sub_range (At0.of_block k8) 2 _ (tot_chk _ _ _)
      simp only [Nat.zero_add] at s0 s1
      go_wp2
      refine wp_region_flow0 (by kernel_rfl) (by kernel_rfl) ?_
      intro ι _ φ hφ
      have hT9 := Lib.hid (fun i => hT8.up (hφ.old i))
      have e0 := fun i => hφ.cell s0 i
      have e1 := fun i => hφ.cell s1 i
      have e3 : ∀ i, (φ i).cell? ⟨g2, 0, none⟩ = some (.int .u64 5) := fun i => hφ.cell (hr8.lo (k := 0) (by decide)) i
      have e4 : ∀ i, (φ i).cell? ⟨g2, 0 + 1, none⟩ = some (.int .u64 0) := fun i => hφ.cell (hr8.hi (k := 0) (by decide)) i
      clear hT8
      repeat (first
        | (refine quiet_load_mid _ _ _ 2 _ _ rfl rfl rfl (mid_family hφ s2) Tryd.underlying37 rfl (by rw [arr8_len]; kernel_rfl) ?_; simp only [Act.put, List.setIfInBounds_toArray, List.set_cons_succ, List.set_cons_zero])
        | go_big_quiet_step ((go_at_call 44; exact flow_call hφ (hI.out _ (hT9.out _)))))
      refine wpQuiet_nil ?_
      intro wz hv
      replace hbe := below_next hbe hbe.size hv
      clear hv
      go_wp2
      go_ret
      exact ⟨rfl, hbe⟩
  · refine ⟨by decide, _, rfl, ?_⟩
    intro v5 K2 hv hK
    replace k0 := keeps hv k0
    replace hb := below_next hb (by have := hb.size; omega) hv
    try (replace hr := hr.up hv)
    try (replace hr5 := hr5.up hv)
    try (replace hr2 := hr2.up hv)
    try (replace k7 := keeps hv k7)
    clear hv
    replace hK := Lib.hid hK
    go_simp
    have hv := (Below.refl v5.heap.size v5).alloc (Nat.le_refl _) (.cells #[.int .u64 5, .int .u64 0] 65 (0, 0))
    refine hK.out _ _ (HeldS.of_below hv) ?_
    clear hK K2
    have hr5 : Row (v5.alloc (.cells #[.int .u64 5, .int .u64 0] 65 (0, 0))) v5.heap.size [5] := alloc_at rfl
    replace k0 := keeps hv k0
    replace hb := below_next hb (by have := hb.size; omega) hv
    try (replace hr := hr.up hv)
    try (replace hr5 := hr5.up hv)
    try (replace hr2 := hr2.up hv)
    try (replace k7 := keeps hv k7)
    clear hv
    generalize v5.alloc (.cells #[.int .u64 5, .int .u64 0] 65 (0, 0)) = v6 at *
    generalize v5.heap.size = q5 at *
    refine segS_more [1, 10] (by kernel_rfl) (by decide) ?_
    intro j hj
    simp only [List.mem_cons, List.not_mem_nil, or_false] at hj
    rcases hj with rfl | rfl
    · refine ⟨by decide, _, rfl, ?_⟩
      intro v2 K2 hv hK
      replace k0 := keeps hv k0
      replace hb := below_next hb (by have := hb.size; omega) hv
      try (replace hr := hr.up hv)
      try (replace hr5 := hr5.up hv)
      try (replace hr2 := hr2.up hv)
      try (replace k7 := keeps hv k7)
      clear hv
      replace hK := Lib.hid hK
      go_simp
      refine (hN.out _).mono ?_
      rintro e v3 ⟨g, rfl, hv, hg, hr⟩
      refine hK.out _ _ (HeldS.of_below hv) ?_
      have hgw : w.heap.size ≤ g := by have := hb.size; omega
      clear hK K2 hg
      replace k0 := keeps hv k0
      replace hb := below_next hb (by have := hb.size; omega) hv
      try (replace hr := hr.up hv)
      try (replace hr5 := hr5.up hv)
      try (replace hr2 := hr2.up hv)
      try (replace k7 := keeps hv k7)
      clear hv
      refine segS_more [6, 10] (by kernel_rfl) (by decide) ?_
      intro j hj
      simp only [List.mem_cons, List.not_mem_nil, or_false] at hj
      rcases hj with rfl | rfl
      · refine ⟨by decide, _, rfl, ?_⟩
        intro v9 K2 hv hK
        replace k0 := keeps hv k0
        replace hb := below_next hb (by have := hb.size; omega) hv
        try (replace hr := hr.up hv)
        try (replace hr5 := hr5.up hv)
        try (replace hr2 := hr2.up hv)
        try (replace k7 := keeps hv k7)
        clear hv
        have hA2 := Lib.hid (hA.out v9 g q5 (hT.out.up hb) hr hr5)
        replace hK := Lib.hid hK
        go_simp
        refine hA2.out.mono ?_
        rintro e vb ⟨g2, rfl, hv, hg2, hr2⟩
        refine hK.out _ _ (HeldS.of_below hv) ?_
        have hgw2 : w.heap.size ≤ g2 := by have := hb.size; omega
        try (have h72 := Nat.lt_of_lt_of_le (lt_of_get k7) hg2)
        clear hK hA2 K2 hr hr5 hg2
        replace k0 := keeps hv k0
        replace hb := below_next hb (by have := hb.size; omega) hv
        try (replace hr := hr.up hv)
        try (replace hr5 := hr5.up hv)
        try (replace hr2 := hr2.up hv)
        try (replace k7 := keeps hv k7)
        clear hv
        refine segS_batch 3 [7, 8, 9] (by kernel_rfl) rfl (by kernel_rfl) (by kernel_rfl) (by kernel_rfl) ?_
        apply Exists.intro
        refine ⟨fun ι _ φ hφ => ?_, fun v4 hv => ?_⟩
        · iterate 3 (refine pick_step rfl ?_; go_big_quiet_step (fail))
          exact pick_end
        replace k0 := keeps hv k0
        replace hb := below_next hb (by have := hb.size; omega) hv
        try (replace hr := hr.up hv)
        try (replace hr5 := hr5.up hv)
        try (replace hr2 := hr2.up hv)
        try (replace k7 := keeps hv k7)
        clear hv
        refine segS_one 10 _ (by decide) rfl (by kernel_rfl) ?_
        intro v7 K2 hv hK
        replace k0 := keeps hv k0
        replace hb := below_next hb (by have := hb.size; omega) hv
        try (replace hr := hr.up hv)
        try (replace hr5 := hr5.up hv)
        try (replace hr2 := hr2.up hv)
        try (replace k7 := keeps hv k7)
        clear hv
        replace hK := Lib.hid hK
        go_simp
        have hv := (Below.refl v7.heap.size v7).alloc (Nat.le_refl _) (.cells #[.slice none 0 0, .int .i64 0, .int .u8 0, .int .u8 0, .int .u8 0, .int .u8 0, .int .u8 0, .int .u8 0, .int .u8 0, .int .u8 0, .int .u8 0, .int .u8 0, .int .u8 0, .int .u8 0, .int .u8 0, .int .u8 0, .int .u8 0, .int .u8 0] 39 (0, 0))
        refine hK.out _ _ (HeldS.of_below hv) ?_
        clear hK K2
        have k7 : (v7.alloc (.cells #[.slice none 0 0, .int .i64 0, .int .u8 0, .int .u8 0, .int .u8 0, .int .u8 0, .int .u8 0, .int .u8 0, .int .u8 0, .int .u8 0, .int .u8 0, .int .u8 0, .int .u8 0, .int .u8 0, .int .u8 0, .int .u8 0, .int .u8 0, .int .u8 0] 39 (0, 0))).heap[v7.heap.size]? = some (.cells noTot.toArray 39 (0, 0)) := alloc_at rfl
        have hq7 : w.heap.size ≤ v7.heap.size := hb.size
        have hqq : q < v7.heap.size := lt_of_get k0
        try (have h72 : g2 < v7.heap.size := lt_of_get hr2)
        replace k0 := keeps hv k0
        replace hb := below_next hb (by have := hb.size; omega) hv
        try (replace hr := hr.up hv)
        try (replace hr5 := hr5.up hv)
        try (replace hr2 := hr2.up hv)
        try (replace k7 := keeps hv k7)
        clear hv
        generalize v7.alloc (.cells #[.slice none 0 0, .int .i64 0, .int .u8 0, .int .u8 0, .int .u8 0, .int .u8 0, .int .u8 0, .int .u8 0, .int .u8 0, .int .u8 0, .int .u8 0, .int .u8 0, .int .u8 0, .int .u8 0, .int .u8 0, .int .u8 0, .int .u8 0, .int .u8 0] 39 (0, 0)) = v8 at *
        generalize v7.heap.size = q7 at *
        refine segS_one 11 _ (by decide) rfl (by kernel_rfl) ?_
        intro vc K2 hv hK
        replace k0 := keeps hv k0
        replace hb := below_next hb (by have := hb.size; omega) hv
        try (replace hr := hr.up hv)
        try (replace hr5 := hr5.up hv)
        try (replace hr2 := hr2.up hv)
        try (replace k7 := keeps hv k7)
        clear hv
        replace hK := Lib.hid hK
        obtain ⟨I, hI2⟩ : ∃ I, tot (.slice (some ⟨g2, 0, none⟩) 1 1) (0 + 1) H = I := ⟨_, rfl⟩
        have hIl : I.length = 18 := by rw [← hI2]; exact tot_len _ _ _
        have hone : ∀ u ∈ I, u.oneCell' = true := by rw [← hI2]; exact one_tot _ _
        have hbut : But q7 vc (vc.setCells q7 0 I) := (But.refl q7 vc).setCells I 0 vc
        have k8 : (vc.setCells q7 0 I).heap[q7]? = some (.cells I.toArray 39 (0, 0)) := by
          rw [heap_setCells _ _ _ _ _ _ _ k7, build_one _ _ (by rw [hIl]; rfl)]
        rw [if_pos (by kernel_rfl)]
        refine wp_store_mid 39 _ _ rfl q7 0 I.toArray rfl (by rw [← hI2]; rfl) (fun j hj => ?_) (by simp only [List.size_toArray, hIl]; exact info_total) (by simpa using hone) (hK.out _ _ ⟨hbut.os, hbut.tape, hbut.output, hbut.size, fun b hb hne => hbut.block b hb (by have : b ≤ q := hne; omega)⟩ ?_)
        · have hj' : j < 18 := by rw [← hIl]; simpa using hj
          simp [World.cell?, World.frozen?, k7]
          exact hj'
        have hbe : Below w.heap.size w (vc.setCells q7 0 I) := hbut.below hb hq7 hb.size
        have hr8 : Row (vc.setCells q7 0 I) g2 [5] := (hbut.block _ (lt_of_get hr2) (by omega)).trans hr2
        clear hK K2 hbut k7 hb hr2 k0
        generalize vc.setCells q7 0 I = vd at *
        rw [put_noneT]
        refine segS_batch 0 [12] (by kernel_rfl) rfl (by kernel_rfl) (by kernel_rfl) (by kernel_rfl) ?_
        apply Exists.intro
        refine ⟨fun ι _ φ hφ => ?_, fun v4 hv => ?_⟩
        · repeat (refine pick_step rfl ?_; go_big_quiet_step (fail))
          exact pick_end
        replace k8 := keeps hv k8
        replace hbe := below_next hbe hbe.size hv
        replace hr8 := hr8.up hv
        clear hv
        refine segS_done rfl (by kernel_rfl) ?_
        intro v5 hv
        replace k8 := keeps hv k8
        replace hbe := below_next hbe hbe.size hv
        replace hr8 := hr8.up hv
        clear hv
        subst hI2
        have hT8 := hT.out.up hbe
        have s0 := At0.of_block k8 0 (.slice (some ⟨g2, 0, none⟩) 1 1) rfl
        have s1 := At0.of_block k8 1 (.int .i64 (0 + 1)) rfl
        have s2 := sub_range (At0.of_block k8) 2 _ (tot_chk _ _ _)
        simp only [Nat.zero_add] at s0 s1
        go_wp2
        refine wp_region_flow0 (by kernel_rfl) (by kernel_rfl) ?_
        intro ι _ φ hφ
        have hT9 := Lib.hid (fun i => hT8.up (hφ.old i))
        have e0 := fun i => hφ.cell s0 i
        have e1 := fun i => hφ.cell s1 i
        have e3 : ∀ i, (φ i).cell? ⟨g2, 0, none⟩ = some (.int .u64 5) := fun i => hφ.cell (hr8.lo (k := 0) (by decide)) i
        have e4 : ∀ i, (φ i).cell? ⟨g2, 0 + 1, none⟩ = some (.int .u64 0) := fun i => hφ.cell (hr8.hi (k := 0) (by decide)) i
        clear hT8
        repeat (first
          | (refine quiet_load_mid _ _ _ 2 _ _ rfl rfl rfl (mid_family hφ s2) Tryd.underlying37 rfl (by rw [arr8_len]; kernel_rfl) ?_; simp only [Act.put, List.setIfInBounds_toArray, List.set_cons_succ, List.set_cons_zero])
          | go_big_quiet_step ((go_at_call 44; exact flow_call hφ (hI.out _ (hT9.out _)))))
        refine wpQuiet_nil ?_
        intro wz hv
        replace hbe := below_next hbe hbe.size hv
        clear hv
        go_wp2
        go_ret
        exact ⟨rfl, hbe⟩
      · refine ⟨by decide, _, rfl, ?_⟩
        intro v7 K2 hv hK
        replace k0 := keeps hv k0
        replace hb := below_next hb (by have := hb.size; omega) hv
        try (replace hr := hr.up hv)
        try (replace hr5 := hr5.up hv)
        try (replace hr2 := hr2.up hv)
        try (replace k7 := keeps hv k7)
        clear hv
        replace hK := Lib.hid hK
        go_simp
        have hv := (Below.refl v7.heap.size v7).alloc (Nat.le_refl _) (.cells #[.slice none 0 0, .int .i64 0, .int .u8 0, .int .u8 0, .int .u8 0, .int .u8 0, .int .u8 0, .int .u8 0, .int .u8 0, .int .u8 0, .int .u8 0, .int .u8 0, .int .u8 0, .int .u8 0, .int .u8 0, .int .u8 0, .int .u8 0, .int .u8 0] 39 (0, 0))
        refine hK.out _ _ (HeldS.of_below hv) ?_
        clear hK K2
        have k7 : (v7.alloc (.cells #[.slice none 0 0, .int .i64 0, .int .u8 0, .int .u8 0, .int .u8 0, .int .u8 0, .int .u8 0, .int .u8 0, .int .u8 0, .int .u8 0, .int .u8 0, .int .u8 0, .int .u8 0, .int .u8 0, .int .u8 0, .int .u8 0, .int .u8 0, .int .u8 0] 39 (0, 0))).heap[v7.heap.size]? = some (.cells noTot.toArray 39 (0, 0)) := alloc_at rfl
        have hq7 : w.heap.size ≤ v7.heap.size := hb.size
        have hqq : q < v7.heap.size := lt_of_get k0
        try (have h72 : g2 < v7.heap.size := lt_of_get hr2)
        replace k0 := keeps hv k0
        replace hb := below_next hb (by have := hb.size; omega) hv
        try (replace hr := hr.up hv)
        try (replace hr5 := hr5.up hv)
        try (replace hr2 := hr2.up hv)
        try (replace k7 := keeps hv k7)
        clear hv
        generalize v7.alloc (.cells #[.slice none 0 0, .int .i64 0, .int .u8 0, .int .u8 0, .int .u8 0, .int .u8 0, .int .u8 0, .int .u8 0, .int .u8 0, .int .u8 0, .int .u8 0, .int .u8 0, .int .u8 0, .int .u8 0, .int .u8 0, .int .u8 0, .int .u8 0, .int .u8 0] 39 (0, 0)) = v8 at *
        generalize v7.heap.size = q7 at *
        refine segS_one 6 _ (by decide) rfl (by kernel_rfl) ?_
        intro v9 K2 hv hK
        replace k0 := keeps hv k0
        replace hb := below_next hb (by have := hb.size; omega) hv
        try (replace hr := hr.up hv)
        try (replace hr5 := hr5.up hv)
        try (replace hr2 := hr2.up hv)
        try (replace k7 := keeps hv k7)
        clear hv
        have hA2 := Lib.hid (hA.out v9 g q5 (hT.out.up hb) hr hr5)
        replace hK := Lib.hid hK
        go_simp
        refine hA2.out.mono ?_
        rintro e vb ⟨g2, rfl, hv, hg2, hr2⟩
        refine hK.out _ _ (HeldS.of_below hv) ?_
        have hgw2 : w.heap.size ≤ g2 := by have := hb.size; omega
        try (have h72 := Nat.lt_of_lt_of_le (lt_of_get k7) hg2)
        clear hK hA2 K2 hr hr5 hg2
        replace k0 := keeps hv k0
        replace hb := below_next hb (by have := hb.size; omega) hv
        try (replace hr := hr.up hv)
        try (replace hr5 := hr5.up hv)
        try (replace hr2 := hr2.up hv)
        try (replace k7 := keeps hv k7)
        clear hv
        refine segS_batch 2 [7, 8, 9] (by kernel_rfl) rfl (by kernel_rfl) (by kernel_rfl) (by kernel_rfl) ?_
        apply Exists.intro
        refine ⟨fun ι _ φ hφ => ?_, fun v4 hv => ?_⟩
        · iterate 3 (refine pick_step rfl ?_; go_big_quiet_step (fail))
          exact pick_end
        replace k0 := keeps hv k0
        replace hb := below_next hb (by have := hb.size; omega) hv
        try (replace hr := hr.up hv)
        try (replace hr5 := hr5.up hv)
        try (replace hr2 := hr2.up hv)
        try (replace k7 := keeps hv k7)
        clear hv
        refine segS_one 11 _ (by decide) rfl (by kernel_rfl) ?_
        intro vc K2 hv hK
        replace k0 := keeps hv k0
        replace hb := below_next hb (by have := hb.size; omega) hv
        try (replace hr := hr.up hv)
        try (replace hr5 := hr5.up hv)
        try (replace hr2 := hr2.up hv)
        try (replace k7 := keeps hv k7)
        clear hv
        replace hK := Lib.hid hK
        obtain ⟨I, hI2⟩ : ∃ I, tot (.slice (some ⟨g2, 0, none⟩) 1 1) (0 + 1) H = I := ⟨_, rfl⟩
        have hIl : I.length = 18 := by rw [← hI2]; exact tot_len _ _ _
        have hone : ∀ u ∈ I, u.oneCell' = true := by rw [← hI2]; exact one_tot _ _
        have hbut : But q7 vc (vc.setCells q7 0 I) := (But.refl q7 vc).setCells I 0 vc
        have k8 : (vc.setCells q7 0 I).heap[q7]? = some (.cells I.toArray 39 (0, 0)) := by
          rw [heap_setCells _ _ _ _ _ _ _ k7, build_one _ _ (by rw [hIl]; rfl)]
        rw [if_pos (by kernel_rfl)]
        refine wp_store_mid 39 _ _ rfl q7 0 I.toArray rfl (by rw [← hI2]; rfl) (fun j hj => ?_) (by simp only [List.size_toArray, hIl]; exact info_total) (by simpa using hone) (hK.out _ _ ⟨hbut.os, hbut.tape, hbut.output, hbut.size, fun b hb hne => hbut.block b hb (by have : b ≤ q := hne; omega)⟩ ?_)
        · have hj' : j < 18 := by rw [← hIl]; simpa using hj
          simp [World.cell?, World.frozen?, k7]
          exact hj'
        have hbe : Below w.heap.size w (vc.setCells q7 0 I) := hbut.below hb hq7 hb.size
        have hr8 : Row (vc.setCells q7 0 I) g2 [5] := (hbut.block _ (lt_of_get hr2) (by omega)).trans hr2
        clear hK K2 hbut k7 hb hr2 k0
        generalize vc.setCells q7 0 I = vd at *
        rw [put_noneT]
        refine segS_batch 0 [12] (by kernel_rfl) rfl (by kernel_rfl) (by kernel_rfl) (by kernel_rfl) ?_
        apply Exists.intro
        refine ⟨fun ι _ φ hφ => ?_, fun v4 hv => ?_⟩
        · repeat (refine pick_step rfl ?_; go_big_quiet_step (fail))
          exact pick_end
        replace k8 := keeps hv k8
        replace hbe := below_next hbe hbe.size hv
        replace hr8 := hr8.up hv
        clear hv
        refine segS_done rfl (by kernel_rfl) ?_
        intro v5 hv
        replace k8 := keeps hv k8
        replace hbe := below_next hbe hbe.size hv
        replace hr8 := hr8.up hv
        clear hv
        subst hI2
        have hT8 := hT.out.up hbe
        have s0 := At0.of_block k8 0 (.slice (some ⟨g2, 0, none⟩) 1 1) rfl
        have s1 := At0.of_block k8 1 (.int .i64 (0 + 1)) rfl
        have s2 := sub_range (At0.of_block k8) 2 _ (tot_chk _ _ _)
        simp only [Nat.zero_add] at s0 s1
        go_wp2
        refine wp_region_flow0 (by kernel_rfl) (by kernel_rfl) ?_
        intro ι _ φ hφ
        have hT9 := Lib.hid (fun i => hT8.up (hφ.old i))
        have e0 := fun i => hφ.cell s0 i
        have e1 := fun i => hφ.cell s1 i
        have e3 : ∀ i, (φ i).cell? ⟨g2, 0, none⟩ = some (.int .u64 5) := fun i => hφ.cell (hr8.lo (k := 0) (by decide)) i
        have e4 : ∀ i, (φ i).cell? ⟨g2, 0 + 1, none⟩ = some (.int .u64 0) := fun i => hφ.cell (hr8.hi (k := 0) (by decide)) i
        clear hT8
        repeat (first
          | (refine quiet_load_mid _ _ _ 2 _ _ rfl rfl rfl (mid_family hφ s2) Tryd.underlying37 rfl (by rw [arr8_len]; kernel_rfl) ?_; simp only [Act.put, List.setIfInBounds_toArray, List.set_cons_succ, List.set_cons_zero])
          | go_big_quiet_step ((go_at_call 44; exact flow_call hφ (hI.out _ (hT9.out _)))))
        refine wpQuiet_nil ?_
        intro wz hv
        replace hbe := below_next hbe hbe.size hv
        clear hv
        go_wp2
        go_ret
        exact ⟨rfl, hbe⟩
    · refine ⟨by decide, _, rfl, ?_⟩
      intro v7 K2 hv hK
      replace k0 := keeps hv k0
      replace hb := below_next hb (by have := hb.size; omega) hv
      try (replace hr := hr.up hv)
      try (replace hr5 := hr5.up hv)
      try (replace hr2 := hr2.up hv)
      try (replace k7 := keeps hv k7)
      clear hv
      replace hK := Lib.hid hK
      go_simp
      have hv := (Below.refl v7.heap.size v7).alloc (Nat.le_refl _) (.cells #[.slice none 0 0, .int .i64 0, .int .u8 0, .int .u8 0, .int .u8 0, .int .u8 0, .int .u8 0, .int .u8 0, .int .u8 0, .int .u8 0, .int .u8 0, .int .u8 0, .int .u8 0, .int .u8 0, .int .u8 0, .int .u8 0, .int .u8 0, .int .u8 0] 39 (0, 0))
      refine hK.out _ _ (HeldS.of_below hv) ?_
      clear hK K2
      have k7 : (v7.alloc (.cells #[.slice none 0 0, .int .i64 0, .int .u8 0, .int .u8 0, .int .u8 0, .int .u8 0, .int .u8 0, .int .u8 0, .int .u8 0, .int .u8 0, .int .u8 0, .int .u8 0, .int .u8 0, .int .u8 0, .int .u8 0, .int .u8 0, .int .u8 0, .int .u8 0] 39 (0, 0))).heap[v7.heap.size]? = some (.cells noTot.toArray 39 (0, 0)) := alloc_at rfl
      have hq7 : w.heap.size ≤ v7.heap.size := hb.size
      have hqq : q < v7.heap.size := lt_of_get k0
      try (have h72 : g2 < v7.heap.size := lt_of_get hr2)
      replace k0 := keeps hv k0
      replace hb := below_next hb (by have := hb.size; omega) hv
      try (replace hr := hr.up hv)
      try (replace hr5 := hr5.up hv)
      try (replace hr2 := hr2.up hv)
      try (replace k7 := keeps hv k7)
      clear hv
      generalize v7.alloc (.cells #[.slice none 0 0, .int .i64 0, .int .u8 0, .int .u8 0, .int .u8 0, .int .u8 0, .int .u8 0, .int .u8 0, .int .u8 0, .int .u8 0, .int .u8 0, .int .u8 0, .int .u8 0, .int .u8 0, .int .u8 0, .int .u8 0, .int .u8 0, .int .u8 0] 39 (0, 0)) = v8 at *
      generalize v7.heap.size = q7 at *
      refine segS_one 1 _ (by decide) rfl (by kernel_rfl) ?_
      intro v2 K2 hv hK
      replace k0 := keeps hv k0
      replace hb := below_next hb (by have := hb.size; omega) hv
      try (replace hr := hr.up hv)
      try (replace hr5 := hr5.up hv)
      try (replace hr2 := hr2.up hv)
      try (replace k7 := keeps hv k7)
      clear hv
      replace hK := Lib.hid hK
      go_simp
      refine (hN.out _).mono ?_
      rintro e v3 ⟨g, rfl, hv, hg, hr⟩
      refine hK.out _ _ (HeldS.of_below hv) ?_
      have hgw : w.heap.size ≤ g := by have := hb.size; omega
      clear hK K2 hg
      replace k0 := keeps hv k0
      replace hb := below_next hb (by have := hb.size; omega) hv
      try (replace hr := hr.up hv)
      try (replace hr5 := hr5.up hv)
      try (replace hr2 := hr2.up hv)
      try (replace k7 := keeps hv k7)
      clear hv
      refine segS_one 6 _ (by decide) rfl (by kernel_rfl) ?_
      intro v9 K2 hv hK
      replace k0 := keeps hv k0
      replace hb := below_next hb (by have := hb.size; omega) hv
      try (replace hr := hr.up hv)
      try (replace hr5 := hr5.up hv)
      try (replace hr2 := hr2.up hv)
      try (replace k7 := keeps hv k7)
      clear hv
      have hA2 := Lib.hid (hA.out v9 g q5 (hT.out.up hb) hr hr5)
      replace hK := Lib.hid hK
      go_simp
      refine hA2.out.mono ?_
      rintro e vb ⟨g2, rfl, hv, hg2, hr2⟩
      refine hK.out _ _ (HeldS.of_below hv) ?_
      have hgw2 : w.heap.size ≤ g2 := by have := hb.size; omega
      try (have h72 := Nat.lt_of_lt_of_le (lt_of_get k7) hg2)
      clear hK hA2 K2 hr hr5 hg2
      replace k0 := keeps hv k0
      replace hb := below_next hb (by have := hb.size; omega) hv
      try (replace hr := hr.up hv)
      try (replace hr5 := hr5.up hv)
      try (replace hr2 := hr2.up hv)
      try (replace k7 := keeps hv k7)
      clear hv
      refine segS_batch 2 [7, 8, 9] (by kernel_rfl) rfl (by kernel_rfl) (by kernel_rfl) (by kernel_rfl) ?_
      apply Exists.intro
      refine ⟨fun ι _ φ hφ => ?_, fun v4 hv => ?_⟩
      · iterate 3 (refine pick_step rfl ?_; go_big_quiet_step (fail))
        exact pick_end
      replace k0 := keeps hv k0
      replace hb := below_next hb (by have := hb.size; omega) hv
      try (replace hr := hr.up hv)
      try (replace hr5 := hr5.up hv)
      try (replace hr2 := hr2.up hv)
      try (replace k7 := keeps hv k7)
      clear hv
      refine segS_one 11 _ (by decide) rfl (by kernel_rfl) ?_
      intro vc K2 hv hK
      replace k0 := keeps hv k0
      replace hb := below_next hb (by have := hb.size; omega) hv
      try (replace hr := hr.up hv)
      try (replace hr5 := hr5.up hv)
      try (replace hr2 := hr2.up hv)
      try (replace k7 := keeps hv k7)
      clear hv
      replace hK := Lib.hid hK
      obtain ⟨I, hI2⟩ : ∃ I, tot (.slice (some ⟨g2, 0, none⟩) 1 1) (0 + 1) H = I := ⟨_, rfl⟩
      have hIl : I.length = 18 := by rw [← hI2]; exact tot_len _ _ _
      have hone : ∀ u ∈ I, u.oneCell' = true := by rw [← hI2]; exact one_tot _ _
      have hbut : But q7 vc (vc.setCells q7 0 I) := (But.refl q7 vc).setCells I 0 vc
      have k8 : (vc.setCells q7 0 I).heap[q7]? = some (.cells I.toArray 39 (0, 0)) := by
        rw [heap_setCells _ _ _ _ _ _ _ k7, build_one _ _ (by rw [hIl]; rfl)]
      rw [if_pos (by kernel_rfl)]
      refine wp_store_mid 39 _ _ rfl q7 0 I.toArray rfl (by rw [← hI2]; rfl) (fun j hj => ?_) (by simp only [List.size_toArray, hIl]; exact info_total) (by simpa using hone) (hK.out _ _ ⟨hbut.os, hbut.tape, hbut.output, hbut.size, fun b hb hne => hbut.block b hb (by have : b ≤ q := hne; omega)⟩ ?_)
      · have hj' : j < 18 := by rw [← hIl]; simpa using hj
        simp [World.cell?, World.frozen?, k7]
        exact hj'
      have hbe : Below w.heap.size w (vc.setCells q7 0 I) := hbut.below hb hq7 hb.size
      have hr8 : Row (vc.setCells q7 0 I) g2 [5] := (hbut.block _ (lt_of_get hr2) (by omega)).trans hr2
      clear hK K2 hbut k7 hb hr2 k0
      generalize vc.setCells q7 0 I = vd at *
      rw [put_noneT]
      refine segS_batch 0 [12] (by kernel_rfl) rfl (by kernel_rfl) (by kernel_rfl) (by kernel_rfl) ?_
      apply Exists.intro
      refine ⟨fun ι _ φ hφ => ?_, fun v4 hv => ?_⟩
      · repeat (refine pick_step rfl ?_; go_big_quiet_step (fail))
        exact pick_end
      replace k8 := keeps hv k8
      replace hbe := below_next hbe hbe.size hv
      replace hr8 := hr8.up hv
      clear hv
      refine segS_done rfl (by kernel_rfl) ?_
      intro v5 hv
      replace k8 := keeps hv k8
      replace hbe := below_next hbe hbe.size hv
      replace hr8 := hr8.up hv
      clear hv
      subst hI2
      have hT8 := hT.out.up hbe
      have s0 := At0.of_block k8 0 (.slice (some ⟨g2, 0, none⟩) 1 1) rfl
      have s1 := At0.of_block k8 1 (.int .i64 (0 + 1)) rfl
      have s2 := sub_range (At0.of_block k8) 2 _ (tot_chk _ _ _)
      simp only [Nat.zero_add] at s0 s1
      go_wp2
      refine wp_region_flow0 (by kernel_rfl) (by kernel_rfl) ?_
      intro ι _ φ hφ
      have hT9 := Lib.hid (fun i => hT8.up (hφ.old i))
      have e0 := fun i => hφ.cell s0 i
      have e1 := fun i => hφ.cell s1 i
      have e3 : ∀ i, (φ i).cell? ⟨g2, 0, none⟩ = some (.int .u64 5) := fun i => hφ.cell (hr8.lo (k := 0) (by decide)) i
      have e4 : ∀ i, (φ i).cell? ⟨g2, 0 + 1, none⟩ = some (.int .u64 0) := fun i => hφ.cell (hr8.hi (k := 0) (by decide)) i
      clear hT8
      repeat (first
        | (refine quiet_load_mid _ _ _ 2 _ _ rfl rfl rfl (mid_family hφ s2) Tryd.underlying37 rfl (by rw [arr8_len]; kernel_rfl) ?_; simp only [Act.put, List.setIfInBounds_toArray, List.set_cons_succ, List.set_cons_zero])
        | go_big_quiet_step ((go_at_call 44; exact flow_call hφ (hI.out _ (hT9.out _)))))
      refine wpQuiet_nil ?_
      intro wz hv
      replace hbe := below_next hbe hbe.size hv
      clear hv
      go_wp2
      go_ret
      exact ⟨rfl, hbe⟩
  · refine ⟨by decide, _, rfl, ?_⟩
    intro v7 K2 hv hK
    replace k0 := keeps hv k0
    replace hb := below_next hb (by have := hb.size; omega) hv
    try (replace hr := hr.up hv)
    try (replace hr5 := hr5.up hv)
    try (replace hr2 := hr2.up hv)
    try (replace k7 := keeps hv k7)
    clear hv
    replace hK := Lib.hid hK
    go_simp
    have hv := (Below.refl v7.heap.size v7).alloc (Nat.le_refl _) (.cells #[.slice none 0 0, .int .i64 0, .int .u8 0, .int .u8 0, .int .u8 0, .int .u8 0, .int .u8 0, .int .u8 0, .int .u8 0, .int .u8 0, .int .u8 0, .int .u8 0, .int .u8 0, .int .u8 0, .int .u8 0, .int .u8 0, .int .u8 0, .int .u8 0] 39 (0, 0))
    refine hK.out _ _ (HeldS.of_below hv) ?_
    clear hK K2
    have k7 : (v7.alloc (.cells #[.slice none 0 0, .int .i64 0, .int .u8 0, .int .u8 0, .int .u8 0, .int .u8 0, .int .u8 0, .int .u8 0, .int .u8 0, .int .u8 0, .int .u8 0, .int .u8 0, .int .u8 0, .int .u8 0, .int .u8 0, .int .u8 0, .int .u8 0, .int .u8 0] 39 (0, 0))).heap[v7.heap.size]? = some (.cells noTot.toArray 39 (0, 0)) := alloc_at rfl
    have hq7 : w.heap.size ≤ v7.heap.size := hb.size
    have hqq : q < v7.heap.size := lt_of_get k0
    try (have h72 : g2 < v7.heap.size := lt_of_get hr2)
    replace k0 := keeps hv k0
    replace hb := below_next hb (by have := hb.size; omega) hv
    try (replace hr := hr.up hv)
    try (replace hr5 := hr5.up hv)
    try (replace hr2 := hr2.up hv)
    try (replace k7 := keeps hv k7)
    clear hv
    generalize v7.alloc (.cells #[.slice none 0 0, .int .i64 0, .int .u8 0, .int .u8 0, .int .u8 0, .int .u8 0, .int .u8 0, .int .u8 0, .int .u8 0, .int .u8 0, .int .u8 0, .int .u8 0, .int .u8 0, .int .u8 0, .int .u8 0, .int .u8 0, .int .u8 0, .int .u8 0] 39 (0, 0)) = v8 at *
    generalize v7.heap.size = q7 at *
    refine segS_more [1, 5] (by kernel_rfl) (by decide) ?_
    intro j hj
    simp only [List.mem_cons, List.not_mem_nil, or_false] at hj
    rcases hj with rfl | rfl
    · refine ⟨by decide, _, rfl, ?_⟩
      intro v2 K2 hv hK
      replace k0 := keeps hv k0
      replace hb := below_next hb (by have := hb.size; omega) hv
      try (replace hr := hr.up hv)
      try (replace hr5 := hr5.up hv)
      try (replace hr2 := hr2.up hv)
      try (replace k7 := keeps hv k7)
      clear hv
      replace hK := Lib.hid hK
      go_simp
      refine (hN.out _).mono ?_
      rintro e v3 ⟨g, rfl, hv, hg, hr⟩
      refine hK.out _ _ (HeldS.of_below hv) ?_
      have hgw : w.heap.size ≤ g := by have := hb.size; omega
      clear hK K2 hg
      replace k0 := keeps hv k0
      replace hb := below_next hb (by have := hb.size; omega) hv
      try (replace hr := hr.up hv)
      try (replace hr5 := hr5.up hv)
      try (replace hr2 := hr2.up hv)
      try (replace k7 := keeps hv k7)
      clear hv
      refine segS_one 5 _ (by decide) rfl (by kernel_rfl) ?_
      intro v5 K2 hv hK
      replace k0 := keeps hv k0
      replace hb := below_next hb (by have := hb.size; omega) hv
      try (replace hr := hr.up hv)
      try (replace hr5 := hr5.up hv)
      try (replace hr2 := hr2.up hv)
      try (replace k7 := keeps hv k7)
      clear hv
      replace hK := Lib.hid hK
      go_simp
      have hv := (Below.refl v5.heap.size v5).alloc (Nat.le_refl _) (.cells #[.int .u64 5, .int .u64 0] 65 (0, 0))
      refine hK.out _ _ (HeldS.of_below hv) ?_
      clear hK K2
      have hr5 : Row (v5.alloc (.cells #[.int .u64 5, .int .u64 0] 65 (0, 0))) v5.heap.size [5] := alloc_at rfl
      replace k0 := keeps hv k0
      replace hb := below_next hb (by have := hb.size; omega) hv
      try (replace hr := hr.up hv)
      try (replace hr5 := hr5.up hv)
      try (replace hr2 := hr2.up hv)
      try (replace k7 := keeps hv k7)
      clear hv
      generalize v5.alloc (.cells #[.int .u64 5, .int .u64 0] 65 (0, 0)) = v6 at *
      generalize v5.heap.size = q5 at *
      refine segS_one 6 _ (by decide) rfl (by kernel_rfl) ?_
      intro v9 K2 hv hK
      replace k0 := keeps hv k0
      replace hb := below_next hb (by have := hb.size; omega) hv
      try (replace hr := hr.up hv)
      try (replace hr5 := hr5.up hv)
      try (replace hr2 := hr2.up hv)
      try (replace k7 := keeps hv k7)
      clear hv
      have hA2 := Lib.hid (hA.out v9 g q5 (hT.out.up hb) hr hr5)
      replace hK := Lib.hid hK
      go_simp
      refine hA2.out.mono ?_
      rintro e vb ⟨g2, rfl, hv, hg2, hr2⟩
      refine hK.out _ _ (HeldS.of_below hv) ?_
      have hgw2 : w.heap.size ≤ g2 := by have := hb.size; omega
      try (have h72 := Nat.lt_of_lt_of_le (lt_of_get k7) hg2)
      clear hK hA2 K2 hr hr5 hg2
      replace k0 := keeps hv k0
      replace hb := below_next hb (by have := hb.size; omega) hv
      try (replace hr := hr.up hv)
      try (replace hr5 := hr5.up hv)
      try (replace hr2 := hr2.up hv)
      try (replace k7 := keeps hv k7)
      clear hv
      refine segS_batch 2 [7, 8, 9] (by kernel_rfl) rfl (by kernel_rfl) (by kernel_rfl) (by kernel_rfl) ?_
      apply Exists.intro
      refine ⟨fun ι _ φ hφ => ?_, fun v4 hv => ?_⟩
      · iterate 3 (refine pick_step rfl ?_; go_big_quiet_step (fail))
        exact pick_end
      replace k0 := keeps hv k0
      replace hb := below_next hb (by have := hb.size; omega) hv
      try (replace hr := hr.up hv)
      try (replace hr5 := hr5.up hv)
      try (replace hr2 := hr2.up hv)
      try (replace k7 := keeps hv k7)
      clear hv
      refine segS_one 11 _ (by decide) rfl (by kernel_rfl) ?_
      intro vc K2 hv hK
      replace k0 := keeps hv k0
      replace hb := below_next hb (by have := hb.size; omega) hv
      try (replace hr := hr.up hv)
      try (replace hr5 := hr5.up hv)
      try (replace hr2 := hr2.up hv)
      try (replace k7 := keeps hv k7)
      clear hv
      replace hK := Lib.hid hK
      obtain ⟨I, hI2⟩ : ∃ I, tot (.slice (some ⟨g2, 0, none⟩) 1 1) (0 + 1) H = I := ⟨_, rfl⟩
      have hIl : I.length = 18 := by rw [← hI2]; exact tot_len _ _ _
      have hone : ∀ u ∈ I, u.oneCell' = true := by rw [← hI2]; exact one_tot _ _
      have hbut : But q7 vc (vc.setCells q7 0 I) := (But.refl q7 vc).setCells I 0 vc
      have k8 : (vc.setCells q7 0 I).heap[q7]? = some (.cells I.toArray 39 (0, 0)) := by
        rw [heap_setCells _ _ _ _ _ _ _ k7, build_one _ _ (by rw [hIl]; rfl)]
      rw [if_pos (by kernel_rfl)]
      refine wp_store_mid 39 _ _ rfl q7 0 I.toArray rfl (by rw [← hI2]; rfl) (fun j hj => ?_) (by simp only [List.size_toArray, hIl]; exact info_total) (by simpa using hone) (hK.out _ _ ⟨hbut.os, hbut.tape, hbut.output, hbut.size, fun b hb hne => hbut.block b hb (by have : b ≤ q := hne; omega)⟩ ?_)
      · have hj' : j < 18 := by rw [← hIl]; simpa using hj
        simp [World.cell?, World.frozen?, k7]
        exact hj'
      have hbe : Below w.heap.size w (vc.setCells q7 0 I) := hbut.below hb hq7 hb.size
      have hr8 : Row (vc.setCells q7 0 I) g2 [5] := (hbut.block _ (lt_of_get hr2) (by omega)).trans hr2
      clear hK K2 hbut k7 hb hr2 k0
      generalize vc.setCells q7 0 I = vd at *
      rw [put_noneT]
      refine segS_batch 0 [12] (by kernel_rfl) rfl (by kernel_rfl) (by kernel_rfl) (by kernel_rfl) ?_
      apply Exists.intro
      refine ⟨fun ι _ φ hφ => ?_, fun v4 hv => ?_⟩
      · repeat (refine pick_step rfl ?_; go_big_quiet_step (fail))
        exact pick_end
      replace k8 := keeps hv k8
      replace hbe := below_next hbe hbe.size hv
      replace hr8 := hr8.up hv
      clear hv
      refine segS_done rfl (by kernel_rfl) ?_
      intro v5 hv
      replace k8 := keeps hv k8
      replace hbe := below_next hbe hbe.size hv
      replace hr8 := hr8.up hv
      clear hv
      subst hI2
      have hT8 := hT.out.up hbe
      have s0 := At0.of_block k8 0 (.slice (some ⟨g2, 0, none⟩) 1 1) rfl
      have s1 := At0.of_block k8 1 (.int .i64 (0 + 1)) rfl
      have s2 := sub_range (At0.of_block k8) 2 _ (tot_chk _ _ _)
      simp only [Nat.zero_add] at s0 s1
      go_wp2
      refine wp_region_flow0 (by kernel_rfl) (by kernel_rfl) ?_
      intro ι _ φ hφ
      have hT9 := Lib.hid (fun i => hT8.up (hφ.old i))
      have e0 := fun i => hφ.cell s0 i
      have e1 := fun i => hφ.cell s1 i
      have e3 : ∀ i, (φ i).cell? ⟨g2, 0, none⟩ = some (.int .u64 5) := fun i => hφ.cell (hr8.lo (k := 0) (by decide)) i
      have e4 : ∀ i, (φ i).cell? ⟨g2, 0 + 1, none⟩ = some (.int .u64 0) := fun i => hφ.cell (hr8.hi (k := 0) (by decide)) i
      clear hT8
      repeat (first
        | (refine quiet_load_mid _ _ _ 2 _ _ rfl rfl rfl (mid_family hφ s2) Tryd.underlying37 rfl (by rw [arr8_len]; kernel_rfl) ?_; simp only [Act.put, List.setIfInBounds_toArray, List.set_cons_succ, List.set_cons_zero])
        | go_big_quiet_step ((go_at_call 44; exact flow_call hφ (hI.out _ (hT9.out _)))))
      refine wpQuiet_nil ?_
      intro wz hv
      replace hbe := below_next hbe hbe.size hv
      clear hv
      go_wp2
      go_ret
      exact ⟨rfl, hbe⟩
    · refine ⟨by decide, _, rfl, ?_⟩
      intro v5 K2 hv hK
      replace k0 := keeps hv k0
      replace hb := below_next hb (by have := hb.size; omega) hv
      try (replace hr := hr.up hv)
      try (replace hr5 := hr5.up hv)
      try (replace hr2 := hr2.up hv)
      try (replace k7 := keeps hv k7)
      clear hv
      replace hK := Lib.hid hK
      go_simp
      have hv := (Below.refl v5.heap.size v5).alloc (Nat.le_refl _) (.cells #[.int .u64 5, .int .u64 0] 65 (0, 0))
      refine hK.out _ _ (HeldS.of_below hv) ?_
      clear hK K2
      have hr5 : Row (v5.alloc (.cells #[.int .u64 5, .int .u64 0] 65 (0, 0))) v5.heap.size [5] := alloc_at rfl
      replace k0 := keeps hv k0
      replace hb := below_next hb (by have := hb.size; omega) hv
      try (replace hr := hr.up hv)
      try (replace hr5 := hr5.up hv)
      try (replace hr2 := hr2.up hv)
      try (replace k7 := keeps hv k7)
      clear hv
      generalize v5.alloc (.cells #[.int .u64 5, .int .u64 0] 65 (0, 0)) = v6 at *
      generalize v5.heap.size = q5 at *
      refine segS_one 1 _ (by decide) rfl (by kernel_rfl) ?_
      intro v2 K2 hv hK
      replace k0 := keeps hv k0
      replace hb := below_next hb (by have := hb.size; omega) hv
      try (replace hr := hr.up hv)
      try (replace hr5 := hr5.up hv)
      try (replace hr2 := hr2.up hv)
      try (replace k7 := keeps hv k7)
      clear hv
      replace hK := Lib.hid hK
      go_simp
      refine (hN.out _).mono ?_
      rintro e v3 ⟨g, rfl, hv, hg, hr⟩
      refine hK.out _ _ (HeldS.of_below hv) ?_
      have hgw : w.heap.size ≤ g := by have := hb.size; omega
      clear hK K2 hg
      replace k0 := keeps hv k0
      replace hb := below_next hb (by have := hb.size; omega) hv
      try (replace hr := hr.up hv)
      try (replace hr5 := hr5.up hv)
      try (replace hr2 := hr2.up hv)
      try (replace k7 := keeps hv k7)
      clear hv
      refine segS_one 6 _ (by decide) rfl (by kernel_rfl) ?_
      intro v9 K2 hv hK
      replace k0 := keeps hv k0
      replace hb := below_next hb (by have := hb.size; omega) hv
      try (replace hr := hr.up hv)
      try (replace hr5 := hr5.up hv)
      try (replace hr2 := hr2.up hv)
      try (replace k7 := keeps hv k7)
      clear hv
      have hA2 := Lib.hid (hA.out v9 g q5 (hT.out.up hb) hr hr5)
      replace hK := Lib.hid hK
      go_simp
      refine hA2.out.mono ?_
      rintro e vb ⟨g2, rfl, hv, hg2, hr2⟩
      refine hK.out _ _ (HeldS.of_below hv) ?_
      have hgw2 : w.heap.size ≤ g2 := by have := hb.size; omega
      try (have h72 := Nat.lt_of_lt_of_le (lt_of_get k7) hg2)
      clear hK hA2 K2 hr hr5 hg2
      replace k0 := keeps hv k0
      replace hb := below_next hb (by have := hb.size; omega) hv
      try (replace hr := hr.up hv)
      try (replace hr5 := hr5.up hv)
      try (replace hr2 := hr2.up hv)
      try (replace k7 := keeps hv k7)
      clear hv
      refine segS_batch 2 [7, 8, 9] (by kernel_rfl) rfl (by kernel_rfl) (by kernel_rfl) (by kernel_rfl) ?_
      apply Exists.intro
      refine ⟨fun ι _ φ hφ => ?_, fun v4 hv => ?_⟩
      · iterate 3 (refine pick_step rfl ?_; go_big_quiet_step (fail))
        exact pick_end
      replace k0 := keeps hv k0
      replace hb := below_next hb (by have := hb.size; omega) hv
      try (replace hr := hr.up hv)
      try (replace hr5 := hr5.up hv)
      try (replace hr2 := hr2.up hv)
      try (replace k7 := keeps hv k7)
      clear hv
      refine segS_one 11 _ (by decide) rfl (by kernel_rfl) ?_
      intro vc K2 hv hK
      replace k0 := keeps hv k0
      replace hb := below_next hb (by have := hb.size; omega) hv
      try (replace hr := hr.up hv)
      try (replace hr5 := hr5.up hv)
      try (replace hr2 := hr2.up hv)
      try (replace k7 := keeps hv k7)
      clear hv
      replace hK := Lib.hid hK
      obtain ⟨I, hI2⟩ : ∃ I, tot (.slice (some ⟨g2, 0, none⟩) 1 1) (0 + 1) H = I := ⟨_, rfl⟩
      have hIl : I.length = 18 := by rw [← hI2]; exact tot_len _ _ _
      have hone : ∀ u ∈ I, u.oneCell' = true := by rw [← hI2]; exact one_tot _ _
      have hbut : But q7 vc (vc.setCells q7 0 I) := (But.refl q7 vc).setCells I 0 vc
      have k8 : (vc.setCells q7 0 I).heap[q7]? = some (.cells I.toArray 39 (0, 0)) := by
        rw [heap_setCells _ _ _ _ _ _ _ k7, build_one _ _ (by rw [hIl]; rfl)]
      rw [if_pos (by kernel_rfl)]
      refine wp_store_mid 39 _ _ rfl q7 0 I.toArray rfl (by rw [← hI2]; rfl) (fun j hj => ?_) (by simp only [List.size_toArray, hIl]; exact info_total) (by simpa using hone) (hK.out _ _ ⟨hbut.os, hbut.tape, hbut.output, hbut.size, fun b hb hne => hbut.block b hb (by have : b ≤ q := hne; omega)⟩ ?_)
      · have hj' : j < 18 := by rw [← hIl]; simpa using hj
        simp [World.cell?, World.frozen?, k7]
        exact hj'
      have hbe : Below w.heap.size w (vc.setCells q7 0 I) := hbut.below hb hq7 hb.size
      have hr8 : Row (vc.setCells q7 0 I) g2 [5] := (hbut.block _ (lt_of_get hr2) (by omega)).trans hr2
      clear hK K2 hbut k7 hb hr2 k0
      generalize vc.setCells q7 0 I = vd at *
      rw [put_noneT]
      refine segS_batch 0 [12] (by kernel_rfl) rfl (by kernel_rfl) (by kernel_rfl) (by kernel_rfl) ?_
      apply Exists.intro
      refine ⟨fun ι _ φ hφ => ?_, fun v4 hv => ?_⟩
      · repeat (refine pick_step rfl ?_; go_big_quiet_step (fail))
        exact pick_end
      replace k8 := keeps hv k8
      replace hbe := below_next hbe hbe.size hv
      replace hr8 := hr8.up hv
      clear hv
      refine segS_done rfl (by kernel_rfl) ?_
      intro v5 hv
      replace k8 := keeps hv k8
      replace hbe := below_next hbe hbe.size hv
      replace hr8 := hr8.up hv
      clear hv
      subst hI2
      have hT8 := hT.out.up hbe
      have s0 := At0.of_block k8 0 (.slice (some ⟨g2, 0, none⟩) 1 1) rfl
      have s1 := At0.of_block k8 1 (.int .i64 (0 + 1)) rfl
      have s2 := sub_range (At0.of_block k8) 2 _ (tot_chk _ _ _)
      simp only [Nat.zero_add] at s0 s1
      go_wp2
      refine wp_region_flow0 (by kernel_rfl) (by kernel_rfl) ?_
      intro ι _ φ hφ
      have hT9 := Lib.hid (fun i => hT8.up (hφ.old i))
      have e0 := fun i => hφ.cell s0 i
      have e1 := fun i => hφ.cell s1 i
      have e3 : ∀ i, (φ i).cell? ⟨g2, 0, none⟩ = some (.int .u64 5) := fun i => hφ.cell (hr8.lo (k := 0) (by decide)) i
      have e4 : ∀ i, (φ i).cell? ⟨g2, 0 + 1, none⟩ = some (.int .u64 0) := fun i => hφ.cell (hr8.hi (k := 0) (by decide)) i
      clear hT8
      repeat (first
        | (refine quiet_load_mid _ _ _ 2 _ _ rfl rfl rfl (mid_family hφ s2) Tryd.underlying37 rfl (by rw [arr8_len]; kernel_rfl) ?_; simp only [Act.put, List.setIfInBounds_toArray, List.set_cons_succ, List.set_cons_zero])
        | go_big_quiet_step ((go_at_call 44; exact flow_call hφ (hI.out _ (hT9.out _)))))
      refine wpQuiet_nil ?_
      intro wz hv
      replace hbe := below_next hbe hbe.size hv
      clear hv
      go_wp2
      go_ret
      exact ⟨rfl, hbe⟩
end Go.Proofs.YtpojhomccmfffaaDoor
