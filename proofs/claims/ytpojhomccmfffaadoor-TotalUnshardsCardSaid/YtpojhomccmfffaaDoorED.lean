import Derived.Test.YtpojhomccmfffaaDoorEC
import Derived.Test.YtpojhomccmfffaaDoorBA
import Derived.Test.YtpojhomccmfffaaDoorRSame
/-
  Totals: the fixed fact.
-/
namespace Go.Proofs.YtpojhomccmfffaaDoor
open Go.RowKit Flow F
set_option linter.unusedVariables false
set_option linter.unusedSimpArgs false

theorem chk_lim (ns : List Nat) : Lim8 (chk ns) := fun i _ => by
  show outF _ < 256
  unfold outF
  exact Nat.mod_lt _ (by decide)
theorem zero_lim : Lim8 (fun _ => 0) := fun i _ => (by decide : 0 < 256)
theorem xor_zero (f : Nat → Nat) : xorF (fun _ => 0) f = f := funext fun i => Nat.zero_xor _
theorem arr8_ints' (h : Nat → Nat) (n : Nat) : arr8 h n = ((List.range n).map (fun i => ((h i : Nat) : Int))).map (Value.int .u8) := by
  unfold arr8
  rw [List.map_map]
  rfl
theorem eqlIn_chk {t : TypeId} (ht : Tryd.prog.underlying t = some (.array 16 5)) (f g : Nat → Nat) (d : Nat) (w : World) : (Op.equalIn (d + 2) t (.agg (arr8 f 16).toArray) (.agg (arr8 g 16).toArray)).run Tryd.prog w = .ok (((List.range 16).map (fun i => ((f i : Nat) : Int))) == ((List.range 16).map (fun i => ((g i : Nat) : Int)))) w := by
  rw [arr8_ints', arr8_ints']
  exact run_equalIn_ints (P := Tryd.prog) (t := t) (e := 5) (n := 16) (k := .u8) ht Tryd.underlying5 (fun w => Tryd.sizeOf5 w) d _ _ (by simp) (by simp) w
/-- Two checks are one. -/
def sameC (f g : Nat → Nat) : Bool := ((List.range 16).map (fun i => ((f i : Nat) : Int))) == ((List.range 16).map (fun i => ((g i : Nat) : Int)))
theorem sameC_refl (f : Nat → Nat) : sameC f f = true := by unfold sameC; exact beq_self_eq_true _
theorem sameC_congr {f g : Nat → Nat} (h : ∀ i, i < 16 → f i = g i) : sameC f g = true := by
  unfold sameC
  rw [beq_iff_eq]
  exact List.map_congr_left fun i hi => by rw [h i (List.mem_range.1 hi)]
theorem eql_chk {t : TypeId} (ht : Tryd.prog.underlying t = some (.array 16 5)) (f g : Nat → Nat) (w : World) : (binOp .eql t (.agg (arr8 f 16).toArray) (.agg (arr8 g 16).toArray)).run Tryd.prog w = .ok (.bool (sameC f g)) w := by
  have h := eqlIn_chk ht f g 9998 w
  change _ = Result.ok (sameC f g) w at h
  simp only [binOp]
  simp [Op.equal, Op.maxDepth, h]
theorem neq_chk {t : TypeId} (ht : Tryd.prog.underlying t = some (.array 16 5)) (f g : Nat → Nat) (w : World) : (binOp .neq t (.agg (arr8 f 16).toArray) (.agg (arr8 g 16).toArray)).run Tryd.prog w = .ok (.bool (!sameC f g)) w := by
  have h := eqlIn_chk ht f g 9998 w
  change _ = Result.ok (sameC f g) w at h
  simp only [binOp]
  simp [Op.equal, Op.maxDepth, h]
theorem eqlIn_chkC (f g : Nat → Nat) (w : World) : (Op.equalIn 10000 37 (.agg (arr8 f 16).toArray) (.agg (arr8 g 16).toArray)).run Tryd.prog w = .ok (sameC f g) w := eqlIn_chk Tryd.underlying37 f g 9998 w
/-- The first of circuits, the task of noughts. -/
def ci1 : Ci := ⟨1, 1, 0, 0, 0, 0⟩
theorem ci1_small : smallC 0 0 0 0 0 0 = ci1 := by simp [smallC, ci1]
theorem ci1_good : ci1.Good := Ci.good (by decide)
theorem task1_good : TGood ci1 1 ⟨#[]⟩ := ⟨ci1_good, by decide, by decide, by decide⟩
theorem task_nul (w : World) : Calls Tryd.prog 12 #[.agg #[.int .u8 0, .int .u8 0, .int .u8 0, .int .u8 0, .int .u8 0, .int .u8 0, .int .u8 0, .int .u8 0]] w fun e w' => e = .returned (.agg (tcl ci1 1 ⟨#[]⟩).toArray) ∧ Below w.heap.size w w' := by
  have h := task_any 0 0 0 0 0 0 0 0 (by decide) (by decide) (by decide) (by decide) (by decide) (by decide) (by decide) (by decide) (by decide) (by decide) (by decide) (by decide) (by decide) (by decide) (by decide) (by decide) w
  rw [ci1_small] at h
  exact h
def id1 : List Nat := [1, 0, 0, 0, 0, 0, 0, 0, 0, 0, 0, 0, 0, 0, 0, 0]
theorem id1_ok : IdOK id1 := ⟨rfl, by decide⟩
theorem idc1 : (idc id1).toArray = #[.int .u8 1, .int .u8 0, .int .u8 0, .int .u8 0, .int .u8 0, .int .u8 0, .int .u8 0, .int .u8 0, .int .u8 0, .int .u8 0, .int .u8 0, .int .u8 0, .int .u8 0, .int .u8 0, .int .u8 0, .int .u8 0] := rfl
attribute [local go_sem] eql_elem eqlIn_chkC
set_option maxRecDepth 20000 in
set_option maxHeartbeats 8000000 in
theorem tawake_ok (w : World) (hT : Tabs w) : Calls Tryd.prog 11 #[] w fun e w' => e = .returned (.bool true) ∧ Below w.heap.size w w' := by
  have hS := Lib.hid (fun w => task_nul w)
  have hN := Lib.hid (fun w => (tnew_ok ci1 1 ⟨#[]⟩ task1_good 1 (by decide) (by decide) w : Calls Tryd.prog 19 #[.agg (tcl ci1 1 ⟨#[]⟩).toArray] w _))
  have hA := Lib.hid (fun (w : World) g q hT hr1 hr2 => (tadd_ok ci1 1 ⟨#[]⟩ task1_good [0] [5] (some ⟨g, 0, none⟩) (some ⟨q, 0, none⟩) 1 1 1 1 0 (fun _ => 0) id1 id1_ok (by decide) (by decide) rfl (fun x hx => by simp at hx; omega) (fun x hx => by simp at hx; omega) rfl rfl zero_lim (chk_lim _) w hT (Row.elems hr1) (Row.elems hr2) : Calls Tryd.prog 25 #[.agg (tot (.slice (some ⟨g, 0, none⟩) 1 1) 0 (fun _ => 0)).toArray, .agg (tcl ci1 1 ⟨#[]⟩).toArray, .agg #[.int .u8 1, .int .u8 0, .int .u8 0, .int .u8 0, .int .u8 0, .int .u8 0, .int .u8 0, .int .u8 0, .int .u8 0, .int .u8 0, .int .u8 0, .int .u8 0, .int .u8 0, .int .u8 0, .int .u8 0, .int .u8 0], .slice (some ⟨q, 0, none⟩) 1 1] w _))
  have hI := Lib.hid (fun w hT => (ofId_ok id1 id1_ok w hT : Calls Tryd.prog 44 #[.agg #[.int .u8 1, .int .u8 0, .int .u8 0, .int .u8 0, .int .u8 0, .int .u8 0, .int .u8 0, .int .u8 0, .int .u8 0, .int .u8 0, .int .u8 0, .int .u8 0, .int .u8 0, .int .u8 0, .int .u8 0, .int .u8 0]] w _))
  rw [show xorF (fun _ => 0) (chk id1) = chk id1 from xor_zero _, show List.zipWith (add ci1.f) [0] [5] = [5] by decide] at hA
  unfold totv at hA hN
  generalize chk id1 = H at *
  have hsc := sameC_refl H
  replace hT := Lib.hid hT
  go_enter Tryd.func11, Tryd.ntmps11
  go_upto_region 2 with (first
    | (go_at_call 12; refine call_then (hS.out _) ?_; intro w1 hb; have hb0 := hb; have hbA := hb.alloc hb.size (.cells (tcl ⟨0, 0, 0, 0, 0, 0⟩ 0 ⟨#[]⟩).toArray 33 (0, 0)))
    | (refine list_store_whole _ _ _ _ (tcl ci1 1 ⟨#[]⟩) (tcl ⟨0, 0, 0, 0, 0, 0⟩ 0 ⟨#[]⟩) 33 rfl rfl rfl rfl (alloc_at rfl) rfl (by kernel_rfl) (one_tcl _ _ _) ?_; intro w2 hbut k0))
  have hb1 := hbut.below hbA hb.size hbA.size
  obtain ⟨q, hq⟩ : ∃ q, w1.heap.size = q := ⟨_, rfl⟩
  rw [hq] at k0 ⊢
  replace hb := hb1
  have hqw : w.heap.size ≤ q := by rw [← hq]; exact hb0.size
  clear hbut hb1 hbA hb0 hq hS
  refine segS_start (gb := fun k => k ≤ q) 13 (by kernel_rfl) (by decide) ?_
  intro v0 hv
  replace k0 := keeps hv k0
  replace hb := below_next hb (by have := hb.size; omega) hv
  try (replace hr := hr.up hv)
  try (replace hr5 := hr5.up hv)
  try (replace hr2 := hr2.up hv)
  try (replace k7 := keeps hv k7)
  clear hv
  refine segS_batch 9 [0, 2, 3, 4] (by kernel_rfl) rfl (by kernel_rfl) (by kernel_rfl) (by kernel_rfl) ?_
  apply Exists.intro
  refine ⟨fun ι _ φ hφ => ?_, fun v4 hv => ?_⟩
  · repeat (refine pick_step rfl ?_; first
      | (refine quiet_load_mid _ _ _ 0 _ _ rfl rfl rfl (mid_familyT hφ (At0.of_block k0) (Nat.le_refl _)) Tryd.underlying33 rfl (by kernel_rfl) ?_; simp only [Act.put, List.setIfInBounds_toArray, List.set_cons_succ, List.set_cons_zero])
      | go_big_quiet_step (fail))
    exact pick_end
  replace k0 := keeps hv k0
  replace hb := below_next hb (by have := hb.size; omega) hv
  try (replace hr := hr.up hv)
  try (replace hr5 := hr5.up hv)
  try (replace hr2 := hr2.up hv)
  try (replace k7 := keeps hv k7)
  clear hv
  refine segS_more [1, 5, 10] (by kernel_rfl) (by decide) ?_
  intro j hj
  simp only [List.mem_cons, List.not_mem_nil, or_false] at hj
  rcases hj with rfl | rfl | rfl
  · refine ⟨by decide, _, rfl, ?_⟩
    intro v2 K2 hv hK
    replace k0 := keeps hv k0
    replace hb := below_next hb (by have := hb.size; omega) hv
    try (replace hr := hr.up hv)
    try (replace hr5 := hr5.up hv)
    try (replace hr2 := hr2.up hv)
    try (replace k7 := keeps hv k7)
    clear hv
    replace hK := Lib.hid hK
    go_simp
    refine (hN.out _).mono ?_
    rintro e v3 ⟨g, rfl, hv, hg, hr⟩
    refine hK.out _ _ (HeldS.of_below hv) ?_
    have hgw : w.heap.size ≤ g := by have := hb.size; omega
    clear hK K2 hg
    replace k0 := keeps hv k0
    replace hb := below_next hb (by have := hb.size; omega) hv
    try (replace hr := hr.up hv)
    try (replace hr5 := hr5.up hv)
    try (replace hr2 := hr2.up hv)
    try (replace k7 := keeps hv k7)
    clear hv
    refine segS_more [5, 10] (by kernel_rfl) (by decide) ?_
    intro j hj
    simp only [List.mem_cons, List.not_mem_nil, or_false] at hj
    rcases hj with rfl | rfl
    · refine ⟨by decide, _, rfl, ?_⟩
      intro v5 K2 hv hK
      replace k0 := keeps hv k0
      replace hb := below_next hb (by have := hb.size; omega) hv
      try (replace hr := hr.up hv)
      try (replace hr5 := hr5.up hv)
      try (replace hr2 := hr2.up hv)
      try (replace k7 := keeps hv k7)
      clear hv
      replace hK := Lib.hid hK
      go_simp
      have hv := (Below.refl v5.heap.size v5).alloc (Nat.le_refl _) (.cells #[.int .u64 5, .int .u64 0] 65 (0, 0))
      refine hK.out _ _ (HeldS.of_below hv) ?_
      clear hK K2
      have hr5 : Row (v5.alloc (.cells #[.int .u64 5, .int .u64 0] 65 (0, 0))) v5.heap.size [5] := alloc_at rfl
      replace k0 := keeps hv k0
      replace hb := below_next hb (by have := hb.size; omega) hv
      try (replace hr := hr.up hv)
      try (replace hr5 := hr5.up hv)
      try (replace hr2 := hr2.up hv)
      try (replace k7 := keeps hv k7)
      clear hv
      generalize v5.alloc (.cells #[.int .u64 5, .int .u64 0] 65 (0, 0)) = v6 at *
      generalize v5.heap.size = q5 at *
      refine segS_more [6, 10] (by kernel_rfl) (by decide) ?_
      intro j hj
      simp only [List.mem_cons, List.not_mem_nil, or_false] at hj
      rcases hj with rfl | rfl
      · refine ⟨by decide, _, rfl, ?_⟩
        intro v9 K2 hv hK
        replace k0 := keeps hv k0
        replace hb := below_next hb (by have := hb.size; omega) hv
        try (replace hr := hr.up hv)
        try (replace hr5 := hr5.up hv)
        try (replace hr2 := hr2.up hv)
        try (replace k7 := keeps hv k7)
        clear hv
        have hA2 := Lib.hid (hA.out v9 g q5 (hT.out.up hb) hr hr5)
        replace hK := Lib.hid hK
        go_simp
        refine hA2.out.mono ?_
        rintro e vb ⟨g2, rfl, hv, hg2, hr2⟩
        refine hK.out _ _ (HeldS.of_below hv) ?_
        have hgw2 : w.heap.size ≤ g2 := by have := hb.size; omega
        try (have h72 := Nat.lt_of_lt_of_le (lt_of_get k7) hg2)
        clear hK hA2 K2 hr hr5 hg2
        replace k0 := keeps hv k0
        replace hb := below_next hb (by have := hb.size; omega) hv
        try (replace hr := hr.up hv)
        try (replace hr5 := hr5.up hv)
        try (replace hr2 := hr2.up hv)
        try (replace k7 := keeps hv k7)
        clear hv
        refine segS_batch 3 [7, 8, 9] (by kernel_rfl) rfl (by kernel_rfl) (by kernel_rfl) (by kernel_rfl) ?_
        apply Exists.intro
        refine ⟨fun ι _ φ hφ => ?_, fun v4 hv => ?_⟩
        · iterate 3 (refine pick_step rfl ?_; go_big_quiet_step (fail))
          exact pick_end
        replace k0 := keeps hv k0
        replace hb := below_next hb (by have := hb.size; omega) hv
        try (replace hr := hr.up hv)
        try (replace hr5 := hr5.up hv)
        try (replace hr2 := hr2.up hv)
        try (replace k7 := keeps hv k7)
        clear hv
        refine segS_one 10 _ (by decide) rfl (by kernel_rfl) ?_
        intro v7 K2 hv hK
        replace k0 := keeps hv k0
        replace hb := below_next hb (by have := hb.size; omega) hv
        try (replace hr := hr.up hv)
        try (replace hr5 := hr5.up hv)
        try (replace hr2 := hr2.up hv)
        try (replace k7 := keeps hv k7)
        clear hv
        replace hK := Lib.hid hK
        go_simp
        have hv := (Below.refl v7.heap.size v7).alloc (Nat.le_refl _) (.cells #[.slice none 0 0, .int .i64 0, .int .u8 0, .int .u8 0, .int .u8 0, .int .u8 0, .int .u8 0, .int .u8 0, .int .u8 0, .int .u8 0, .int .u8 0, .int .u8 0, .int .u8 0, .int .u8 0, .int .u8 0, .int .u8 0, .int .u8 0, .int .u8 0] 39 (0, 0))
        refine hK.out _ _ (HeldS.of_below hv) ?_
        clear hK K2
        have k7 : (v7.alloc (.cells #[.slice none 0 0, .int .i64 0, .int .u8 0, .int .u8 0, .int .u8 0, .int .u8 0, .int .u8 0, .int .u8 0, .int .u8 0, .int .u8 0, .int .u8 0, .int .u8 0, .int .u8 0, .int .u8 0, .int .u8 0, .int .u8 0, .int .u8 0, .int .u8 0] 39 (0, 0))).heap[v7.heap.size]? = some (.cells noTot.toArray 39 (0, 0)) := alloc_at rfl
        have hq7 : w.heap.size ≤ v7.heap.size := hb.size
        have hqq : q < v7.heap.size := lt_of_get k0
        try (have h72 : g2 < v7.heap.size := lt_of_get hr2)
        replace k0 := keeps hv k0
        replace hb := below_next hb (by have := hb.size; omega) hv
        try (replace hr := hr.up hv)
        try (replace hr5 := hr5.up hv)
        try (replace hr2 := hr2.up hv)
        try (replace k7 := keeps hv k7)
        clear hv
        generalize v7.alloc (.cells #[.slice none 0 0, .int .i64 0, .int .u8 0, .int .u8 0, .int .u8 0, .int .u8 0, .int .u8 0, .int .u8 0, .int .u8 0, .int .u8 0, .int .u8 0, .int .u8 0, .int .u8 0, .int .u8 0, .int .u8 0, .int .u8 0, .int .u8 0, .int .u8 0] 39 (0, 0)) = v8 at *
        generalize v7.heap.size = q7 at *
        refine segS_one 11 _ (by decide) rfl (by kernel_rfl) ?_
        intro vc K2 hv hK
        replace k0 := keeps hv k0
        replace hb := below_next hb (by have := hb.size; omega) hv
        try (replace hr := hr.up hv)
        try (replace hr5 := hr5.up hv)
        try (replace hr2 := hr2.up hv)
        try (replace k7 := keeps hv k7)
        clear hv
        replace hK := Lib.hid hK
        obtain ⟨I, hI2⟩ : ∃ I, tot (.slice (some ⟨g2, 0, none⟩) 1 1) (0 + 1) H = I := ⟨_, rfl⟩
        have hIl : I.length = 18 := by rw [← hI2]; exact tot_len _ _ _
        have hone : ∀ u ∈ I, u.oneCell' = true := by rw [← hI2]; exact one_tot _ _
        have hbut : But q7 vc (vc.setCells q7 0 I) := (But.refl q7 vc).setCells I 0 vc
        have k8 : (vc.setCells q7 0 I).heap[q7]? = some (.cells I.toArray 39 (0, 0)) := by
          rw [heap_setCells _ _ _ _ _ _ _ k7, build_one _ _ (by rw [hIl]; rfl)]
        rw [if_pos (by kernel_rfl)]
        refine wp_store_mid 39 _ _ rfl q7 0 I.toArray rfl (by rw [← hI2]; rfl) (fun j hj => ?_) (by simp only [List.size_toArray, hIl]; exact info_total) (by simpa using hone) (hK.out _ _ ⟨hbut.os, hbut.tape, hbut.output, hbut.size, fun b hb hne => hbut.block b hb (by have : b ≤ q := hne; omega)⟩ ?_)
        · have hj' : j < 18 := by rw [← hIl]; simpa using hj
          simp [World.cell?, World.frozen?, k7]
          exact hj'
        have hbe : Below w.heap.size w (vc.setCells q7 0 I) := hbut.below hb hq7 hb.size
        have hr8 : Row (vc.setCells q7 0 I) g2 [5] := (hbut.block _ (lt_of_get hr2) (by omega)).trans hr2
        clear hK K2 hbut k7 hb hr2 k0
        generalize vc.setCells q7 0 I = vd at *
        rw [put_noneT]
        refine segS_batch 0 [12] (by kernel_rfl) rfl (by kernel_rfl) (by kernel_rfl) (by kernel_rfl) ?_
        apply Exists.intro
        refine ⟨fun ι _ φ hφ => ?_, fun v4 hv => ?_⟩
        · repeat (refine pick_step rfl ?_; go_big_quiet_step (fail))
          exact pick_end
        replace k8 := keeps hv k8
        replace hbe := below_next hbe hbe.size hv
        replace hr8 := hr8.up hv
        clear hv
        refine segS_done rfl (by kernel_rfl) ?_
        intro v5 hv
        replace k8 := keeps hv k8
        replace hbe := below_next hbe hbe.size hv
        replace hr8 := hr8.up hv
        clear hv
        subst hI2
        have hT8 := hT.out.up hbe
        have s0 := At0.of_block k8 0 (.slice (some ⟨g2, 0, none⟩) 1 1) rfl
        have s1 := At0.of_block k8 1 (.int .i64 (0 + 1)) rfl
        have s2 := sub_range (At0.of_block k8) 2 _ (tot_chk _ _ _)
        simp only [Nat.zero_add] at s0 s1
        go_wp2
        refine wp_region_flow0 (by kernel_rfl) (by kernel_rfl) ?_
        intro ι _ φ hφ
        have hT9 := Lib.hid (fun i => hT8.up (hφ.old i))
        have e0 := fun i => hφ.cell s0 i
        have e1 := fun i => hφ.cell s1 i
        have e3 : ∀ i, (φ i).cell? ⟨g2, 0, none⟩ = some (.int .u64 5) := fun i => hφ.cell (hr8.lo (k := 0) (by decide)) i
        have e4 : ∀ i, (φ i).cell? ⟨g2, 0 + 1, none⟩ = some (.int .u64 0) := fun i => hφ.cell (hr8.hi (k := 0) (by decide)) i
        clear hT8
        repeat (first
          | (refine quiet_load_mid _ _ _ 2 _ _ rfl rfl rfl (mid_family hφ s2) Tryd.underlying37 rfl (by rw [arr8_len]; kernel_rfl) ?_; simp only [Act.put, List.setIfInBounds_toArray, List.set_cons_succ, List.set_cons_zero])
          | go_big_quiet_step ((go_at_call 44; exact flow_call hφ (hI.out _ (hT9.out _)))))
        refine wpQuiet_nil ?_
        intro wz hv
        replace hbe := below_next hbe hbe.size hv
        clear hv
        go_wp2
        go_ret
        exact ⟨rfl, hbe⟩
      · refine ⟨by decide, _, rfl, ?_⟩
        intro v7 K2 hv hK
        replace k0 := keeps hv k0
        replace hb := below_next hb (by have := hb.size; omega) hv
        try (replace hr := hr.up hv)
        try (replace hr5 := hr5.up hv)
        try (replace hr2 := hr2.up hv)
        try (replace k7 := keeps hv k7)
        clear hv
        replace hK := Lib.hid hK
        go_simp
        have hv := (Below.refl v7.heap.size v7).alloc (Nat.le_refl _) (.cells #[.slice none 0 0, .int .i64 0, .int .u8 0, .int .u8 0, .int .u8 0, .int .u8 0, .int .u8 0, .int .u8 0, .int .u8 0, .int .u8 0, .int .u8 0, .int .u8 0, .int .u8 0, .int .u8 0, .int .u8 0, .int .u8 0, .int .u8 0, .int .u8 0] 39 (0, 0))
        refine hK.out _ _ (HeldS.of_below hv) ?_
        clear hK K2
        have k7 : (v7.alloc (.cells #[.slice none 0 0, .int .i64 0, .int .u8 0, .int .u8 0, .int .u8 0, .int .u8 0, .int .u8 0, .int .u8 0, .int .u8 0, .int .u8 0, .int .u8 0, .int .u8 0, .int .u8 0, .int .u8 0, .int .u8 0, .int .u8 0, .int .u8 0, .int .u8 0] 39 (0, 0))).heap[v7.heap.size]? = some (.cells noTot.toArray 39 (0, 0)) := alloc_at rfl
        have hq7 : w.heap.size ≤ v7.heap.size := hb.size
        have hqq : q < v7.heap.size := lt_of_get k0
        try (have h72 : g2 < v7.heap.size := lt_of_get hr2)
        replace k0 := keeps hv k0
        replace hb := below_next hb (by have := hb.size; omega) hv
        try (replace hr := hr.up hv)
        try (replace hr5 := hr5.up hv)
        try (replace hr2 := hr2.up hv)
        try (replace k7 := keeps hv k7)
        clear hv
        generalize v7.alloc (.cells #[.slice none 0 0, .int .i64 0, .int .u8 0, .int .u8 0, .int .u8 0, .int .u8 0, .int .u8 0, .int .u8 0, .int .u8 0, .int .u8 0, .int .u8 0, .int .u8 0, .int .u8 0, .int .u8 0, .int .u8 0, .int .u8 0, .int .u8 0, .int .u8 0] 39 (0, 0)) = v8 at *
        generalize v7.heap.size = q7 at *
        refine segS_one 6 _ (by decide) rfl (by kernel_rfl) ?_
        intro v9 K2 hv hK
        replace k0 := keeps hv k0
        replace hb := below_next hb (by have := hb.size; omega) hv
        try (replace hr := hr.up hv)
        try (replace hr5 := hr5.up hv)
        try (replace hr2 := hr2.up hv)
        try (replace k7 := keeps hv k7)
        clear hv
        have hA2 := Lib.hid (hA.out v9 g q5 (hT.out.up hb) hr hr5)
        replace hK := Lib.hid hK
        go_simp
        refine hA2.out.mono ?_
        rintro e vb ⟨g2, rfl, hv, hg2, hr2⟩
        refine hK.out _ _ (HeldS.of_below hv) ?_
        have hgw2 : w.heap.size ≤ g2 := by have := hb.size; omega
        try (have h72 := Nat.lt_of_lt_of_le (lt_of_get k7) hg2)
        clear hK hA2 K2 hr hr5 hg2
        replace k0 := keeps hv k0
        replace hb := below_next hb (by have := hb.size; omega) hv
        try (replace hr := hr.up hv)
        try (replace hr5 := hr5.up hv)
        try (replace hr2 := hr2.up hv)
        try (replace k7 := keeps hv k7)
        clear hv
        refine segS_batch 2 [7, 8, 9] (by kernel_rfl) rfl (by kernel_rfl) (by kernel_rfl) (by kernel_rfl) ?_
        apply Exists.intro
        refine ⟨fun ι _ φ hφ => ?_, fun v4 hv => ?_⟩
        · iterate 3 (refine pick_step rfl ?_; go_big_quiet_step (fail))
          exact pick_end
        replace k0 := keeps hv k0
        replace hb := below_next hb (by have := hb.size; omega) hv
        try (replace hr := hr.up hv)
        try (replace hr5 := hr5.up hv)
        try (replace hr2 := hr2.up hv)
        try (replace k7 := keeps hv k7)
        clear hv
        refine segS_one 11 _ (by decide) rfl (by kernel_rfl) ?_
        intro vc K2 hv hK
        replace k0 := keeps hv k0
        replace hb := below_next hb (by have := hb.size; omega) hv
        try (replace hr := hr.up hv)
        try (replace hr5 := hr5.up hv)
        try (replace hr2 := hr2.up hv)
        try (replace k7 := keeps hv k7)
        clear hv
        replace hK := Lib.hid hK
        obtain ⟨I, hI2⟩ : ∃ I, tot (.slice (some ⟨g2, 0, none⟩) 1 1) (0 + 1) H = I := ⟨_, rfl⟩
        have hIl : I.length = 18 := by rw [← hI2]; exact tot_len _ _ _
        have hone : ∀ u ∈ I, u.oneCell' = true := by rw [← hI2]; exact one_tot _ _
        have hbut : But q7 vc (vc.setCells q7 0 I) := (But.refl q7 vc).setCells I 0 vc
        have k8 : (vc.setCells q7 0 I).heap[q7]? = some (.cells I.toArray 39 (0, 0)) := by
          rw [heap_setCells _ _ _ _ _ _ _ k7, build_one _ _ (by rw [hIl]; rfl)]
        rw [if_pos (by kernel_rfl)]
        refine wp_store_mid 39 _ _ rfl q7 0 I.toArray rfl (by rw [← hI2]; rfl) (fun j hj => ?_) (by simp only [List.size_toArray, hIl]; exact info_total) (by simpa using hone) (hK.out _ _ ⟨hbut.os, hbut.tape, hbut.output, hbut.size, fun b hb hne => hbut.block b hb (by have : b ≤ q := hne; omega)⟩ ?_)
        · have hj' : j < 18 := by rw [← hIl]; simpa using hj
          simp [World.cell?, World.frozen?, k7]
          exact hj'
        have hbe : Below w.heap.size w (vc.setCells q7 0 I) := hbut.below hb hq7 hb.size
        have hr8 : Row (vc.setCells q7 0 I) g2 [5] := (hbut.block _ (lt_of_get hr2) (by omega)).trans hr2
        clear hK K2 hbut k7 hb hr2 k0
        generalize vc.setCells q7 0 I = vd at *
        rw [put_noneT]
        refine segS_batch 0 [12] (by kernel_rfl) rfl (by kernel_rfl) (by kernel_rfl) (by kernel_rfl) ?_
        apply Exists.intro
        refine ⟨fun ι _ φ hφ => ?_, fun v4 hv => ?_⟩
        · repeat (refine pick_step rfl ?_; go_big_quiet_step (fail))
          exact pick_end
        replace k8 := keeps hv k8
        replace hbe := below_next hbe hbe.size hv
        replace hr8 := hr8.up hv
        clear hv
        refine segS_done rfl (by kernel_rfl) ?_
        intro v5 hv
        replace k8 := keeps hv k8
        replace hbe := below_next hbe hbe.size hv
        replace hr8 := hr8.up hv
        clear hv
        subst hI2
        have hT8 := hT.out.up hbe
        have s0 := At0.of_block k8 0 (.slice (some ⟨g2, 0, none⟩) 1 1) rfl
        have s1 := At0.of_block k8 1 (.int .i64 (0 + 1)) rfl
        have s2 := sub_range (At0.of_block k8) 2 _ (tot_chk _ _ _)
        simp only [Nat.zero_add] at s0 s1
        go_wp2
        refine wp_region_flow0 (by kernel_rfl) (by kernel_rfl) ?_
        intro ι _ φ hφ
        have hT9 := Lib.hid (fun i => hT8.up (hφ.old i))
        have e0 := fun i => hφ.cell s0 i
        have e1 := fun i => hφ.cell s1 i
        have e3 : ∀ i, (φ i).cell? ⟨g2, 0, none⟩ = some (.int .u64 5) := fun i => hφ.cell (hr8.lo (k := 0) (by decide)) i
        have e4 : ∀ i, (φ i).cell? ⟨g2, 0 + 1, none⟩ = some (.int .u64 0) := fun i => hφ.cell (hr8.hi (k := 0) (by decide)) i
        clear hT8
        repeat (first
          | (refine quiet_load_mid _ _ _ 2 _ _ rfl rfl rfl (mid_family hφ s2) Tryd.underlying37 rfl (by rw [arr8_len]; kernel_rfl) ?_; simp only [Act.put, List.setIfInBounds_toArray, List.set_cons_succ, List.set_cons_zero])
          | go_big_quiet_step ((go_at_call 44; exact flow_call hφ (hI.out _ (hT9.out _)))))
        refine wpQuiet_nil ?_
        intro wz hv
        replace hbe := below_next hbe hbe.size hv
        clear hv
        go_wp2
        go_ret
        exact ⟨rfl, hbe⟩
    · refine ⟨by decide, _, rfl, ?_⟩
      intro v7 K2 hv hK
      replace k0 := keeps hv k0
      replace hb := below_next hb (by have := hb.size; omega) hv
      try (replace hr := hr.up hv)
      try (replace hr5 := hr5.up hv)
      try (replace hr2 := hr2.up hv)
      try (replace k7 := keeps hv k7)
      clear hv
      replace hK := Lib.hid hK
      go_simp
      have hv := (Below.refl v7.heap.size v7).alloc (Nat.le_refl _) (.cells #[.slice none 0 0, .int .i64 0, .int .u8 0, .int .u8 0, .int .u8 0, .int .u8 0, .int .u8 0, .int .u8 0, .int .u8 0, .int .u8 0, .int .u8 0, .int .u8 0, .int .u8 0, .int .u8 0, .int .u8 0, .int .u8 0, .int .u8 0, .int .u8 0] 39 (0, 0))
      refine hK.out _ _ (HeldS.of_below hv) ?_
      clear hK K2
      have k7 : (v7.alloc (.cells #[.slice none 0 0, .int .i64 0, .int .u8 0, .int .u8 0, .int .u8 0, .int .u8 0, .int .u8 0, .int .u8 0, .int .u8 0, .int .u8 0, .int .u8 0, .int .u8 0, .int .u8 0, .int .u8 0, .int .u8 0, .int .u8 0, .int .u8 0, .int .u8 0] 39 (0, 0))).heap[v7.heap.size]? = some (.cells noTot.toArray 39 (0, 0)) := alloc_at rfl
      have hq7 : w.heap.size ≤ v7.heap.size := hb.size
      have hqq : q < v7.heap.size := lt_of_get k0
      try (have h72 : g2 < v7.heap.size := lt_of_get hr2)
      replace k0 := keeps hv k0
      replace hb := below_next hb (by have := hb.size; omega) hv
      try (replace hr := hr.up hv)
      try (replace hr5 := hr5.up hv)
      try (replace hr2 := hr2.up hv)
      try (replace k7 := keeps hv k7)
      clear hv
      generalize v7.alloc (.cells #[.slice none 0 0, .int .i64 0, .int .u8 0, .int .u8 0, .int .u8 0, .int .u8 0, .int .u8 0, .int .u8 0, .int .u8 0, .int .u8 0, .int .u8 0, .int .u8 0, .int .u8 0, .int .u8 0, .int .u8 0, .int .u8 0, .int .u8 0, .int .u8 0] 39 (0, 0)) = v8 at *
      generalize v7.heap.size = q7 at *
      refine segS_one 5 _ (by decide) rfl (by kernel_rfl) ?_
      intro v5 K2 hv hK
      replace k0 := keeps hv k0
      replace hb := below_next hb (by have := hb.size; omega) hv
      try (replace hr := hr.up hv)
      try (replace hr5 := hr5.up hv)
      try (replace hr2 := hr2.up hv)
      try (replace k7 := keeps hv k7)
      clear hv
      replace hK := Lib.hid hK
      go_simp
      have hv := (Below.refl v5.heap.size v5).alloc (Nat.le_refl _) (.cells #[.int .u64 5, .int .u64 0] 65 (0, 0))
      refine hK.out _ _ (HeldS.of_below hv) ?_
      clear hK K2
      have hr5 : Row (v5.alloc (.cells #[.int .u64 5, .int .u64 0] 65 (0, 0))) v5.heap.size [5] := alloc_at rfl
      replace k0 := keeps hv k0
      replace hb := below_next hb (by have := hb.size; omega) hv
      try (replace hr := hr.up hv)
      try (replace hr5 := hr5.up hv)
      try (replace hr2 := hr2.up hv)
      try (replace k7 := keeps hv k7)
      clear hv
      generalize v5.alloc (.cells #[.int .u64 5, .int .u64 0] 65 (0, 0)) = v6 at *
      generalize v5.heap.size = q5 at *
      refine segS_one 6 _ (by decide) rfl (by kernel_rfl) ?_
      intro v9 K2 hv hK
      replace k0 := keeps hv k0
      replace hb := below_next hb (by have := hb.size; omega) hv
      try (replace hr := hr.up hv)
      try (replace hr5 := hr5.up hv)
      try (replace hr2 := hr2.up hv)
      try (replace k7 := keeps hv k7)
      clear hv
      have hA2 := Lib.hid (hA.out v9 g q5 (hT.out.up hb) hr hr5)
      replace hK := Lib.hid hK
      go_simp
      refine hA2.out.mono ?_
      rintro e vb ⟨g2, rfl, hv, hg2, hr2⟩
      refine hK.out _ _ (HeldS.of_below hv) ?_
      have hgw2 : w.heap.size ≤ g2 := by have := hb.size; omega
      try (have h72 := Nat.lt_of_lt_of_le (lt_of_get k7) hg2)
      clear hK hA2 K2 hr hr5 hg2
      replace k0 := keeps hv k0
      replace hb := below_next hb (by have := hb.size; omega) hv
      try (replace hr := hr.up hv)
      try (replace hr5 := hr5.up hv)
      try (replace hr2 := hr2.up hv)
      try (replace k7 := keeps hv k7)
      clear hv
      refine segS_batch 2 [7, 8, 9] (by kernel_rfl) rfl (by kernel_rfl) (by kernel_rfl) (by kernel_rfl) ?_
      apply Exists.intro
      refine ⟨fun ι _ φ hφ => ?_, fun v4 hv => ?_⟩
      · iterate 3 (refine pick_step rfl ?_; go_big_quiet_step (fail))
        exact pick_end
      replace k0 := keeps hv k0
      replace hb := below_next hb (by have := hb.size; omega) hv
      try (replace hr := hr.up hv)
      try (replace hr5 := hr5.up hv)
      try (replace hr2 := hr2.up hv)
      try (replace k7 := keeps hv k7)
      clear hv
      refine segS_one 11 _ (by decide) rfl (by kernel_rfl) ?_
      intro vc K2 hv hK
      replace k0 := keeps hv k0
      replace hb := below_next hb (by have := hb.size; omega) hv
      try (replace hr := hr.up hv)
      try (replace hr5 := hr5.up hv)
      try (replace hr2 := hr2.up hv)
      try (replace k7 := keeps hv k7)
      clear hv
      replace hK := Lib.hid hK
      obtain ⟨I, hI2⟩ : ∃ I, tot (.slice (some ⟨g2, 0, none⟩) 1 1) (0 + 1) H = I := ⟨_, rfl⟩
      have hIl : I.length = 18 := by rw [← hI2]; exact tot_len _ _ _
      have hone : ∀ u ∈ I, u.oneCell' = true := by rw [← hI2]; exact one_tot _ _
      have hbut : But q7 vc (vc.setCells q7 0 I) := (But.refl q7 vc).setCells I 0 vc
      have k8 : (vc.setCells q7 0 I).heap[q7]? = some (.cells I.toArray 39 (0, 0)) := by
        rw [heap_setCells _ _ _ _ _ _ _ k7, build_one _ _ (by rw [hIl]; rfl)]
      rw [if_pos (by kernel_rfl)]
      refine wp_store_mid 39 _ _ rfl q7 0 I.toArray rfl (by rw [← hI2]; rfl) (fun j hj => ?_) (by simp only [List.size_toArray, hIl]; exact info_total) (by simpa using hone) (hK.out _ _ ⟨hbut.os, hbut.tape, hbut.output, hbut.size, fun b hb hne => hbut.block b hb (by have : b ≤ q := hne; omega)⟩ ?_)
      · have hj' : j < 18 := by rw [← hIl]; simpa using hj
        simp [World.cell?, World.frozen?, k7]
        exact hj'
      have hbe : Below w.heap.size w (vc.setCells q7 0 I) := hbut.below hb hq7 hb.size
      have hr8 : Row (vc.setCells q7 0 I) g2 [5] := (hbut.block _ (lt_of_get hr2) (by omega)).trans hr2
      clear hK K2 hbut k7 hb hr2 k0
      generalize vc.setCells q7 0 I = vd at *
      rw [put_noneT]
      refine segS_batch 0 [12] (by kernel_rfl) rfl (by kernel_rfl) (by kernel_rfl) (by kernel_rfl) ?_
      apply Exists.intro
      refine ⟨fun ι _ φ hφ => ?_, fun v4 hv => ?_⟩
      · repeat (refine pick_step rfl ?_; go_big_quiet_step (fail))
        exact pick_end
      replace k8 := keeps hv k8
      replace hbe := below_next hbe hbe.size hv
      replace hr8 := hr8.up hv
      clear hv
      refine segS_done rfl (by kernel_rfl) ?_
      intro v5 hv
      replace k8 := keeps hv k8
      replace hbe := below_next hbe hbe.size hv
      replace hr8 := hr8.up hv
      clear hv
      subst hI2
      have hT8 := hT.out.up hbe
      have s0 := At0.of_block k8 0 (.slice (some ⟨g2, 0, none⟩) 1 1) rfl
      have s1 := At0.of_block k8 1 (.int .i64 (0 + 1)) rfl
      have s2 := sub_range (At0.of_block k8) 2 _ (tot_chk _ _ _)
      simp only [Nat.zero_add] at s0 s1
      go_wp2
      refine wp_region_flow0 (by kernel_rfl) (by kernel_rfl) ?_
      intro ι _ φ hφ
      have hT9 := Lib.hid (fun i => hT8.up (hφ.old i))
      have e0 := fun i => hφ.cell s0 i
      have e1 := fun i => hφ.cell s1 i
      have e3 : ∀ i, (φ i).cell? ⟨g2, 0, none⟩ = some (.int .u64 5) := fun i => hφ.cell (hr8.lo (k := 0) (by decide)) i
      have e4 : ∀ i, (φ i).cell? ⟨g2, 0 + 1, none⟩ = some (.int .u64 0) := fun i => hφ.cell (hr8.hi (k := 0) (by decide)) i
      clear hT8
      repeat (first
        | (refine quiet_load_mid _ _ _ 2 _ _ rfl rfl rfl (mid_family hφ s2) Tryd.underlying37 rfl (by rw [arr8_len]; kernel_rfl) ?_; simp only [Act.put, List.setIfInBounds_toArray, List.set_cons_succ, List.set_cons_zero])
        | go_big_quiet_step ((go_at_call 44; exact flow_call hφ (hI.out _ (hT9.out _)))))
      refine wpQuiet_nil ?_
      intro wz hv
      replace hbe := below_next hbe hbe.size hv
      clear hv
      go_wp2
      go_ret
      exact ⟨rfl, hbe⟩
  · refine ⟨by decide, _, rfl, ?_⟩
    intro v5 K2 hv hK
    replace k0 := keeps hv k0
    replace hb := below_next hb (by have := hb.size; omega) hv
    try (replace hr := hr.up hv)
    try (replace hr5 := hr5.up hv)
    try (replace hr2 := hr2.up hv)
    try (replace k7 := keeps hv k7)
    clear hv
    replace hK := Lib.hid hK
    go_simp
    have hv := (Below.refl v5.heap.size v5).alloc (Nat.le_refl _) (.cells #[.int .u64 5, .int .u64 0] 65 (0, 0))
    refine hK.out _ _ (HeldS.of_below hv) ?_
    clear hK K2
    have hr5 : Row (v5.alloc (.cells #[.int .u64 5, .int .u64 0] 65 (0, 0))) v5.heap.size [5] := alloc_at rfl
    replace k0 := keeps hv k0
    replace hb := below_next hb (by have := hb.size; omega) hv
    try (replace hr := hr.up hv)
    try (replace hr5 := hr5.up hv)
    try (replace hr2 := hr2.up hv)
    try (replace k7 := keeps hv k7)
    clear hv
    generalize v5.alloc (.cells #[.int .u64 5, .int .u64 0] 65 (0, 0)) = v6 at *
    generalize v5.heap.size = q5 at *
    refine segS_more [1, 10] (by kernel_rfl) (by decide) ?_
    intro j hj
    simp only [List.mem_cons, List.not_mem_nil, or_false] at hj
    rcases hj with rfl | rfl
    · refine ⟨by decide, _, rfl, ?_⟩
      intro v2 K2 hv hK
      replace k0 := keeps hv k0
      replace hb := below_next hb (by have := hb.size; omega) hv
      try (replace hr := hr.up hv)
      try (replace hr5 := hr5.up hv)
      try (replace hr2 := hr2.up hv)
      try (replace k7 := keeps hv k7)
      clear hv
      replace hK := Lib.hid hK
      go_simp
      refine (hN.out _).mono ?_
      rintro e v3 ⟨g, rfl, hv, hg, hr⟩
      refine hK.out _ _ (HeldS.of_below hv) ?_
      have hgw : w.heap.size ≤ g := by have := hb.size; omega
      clear hK K2 hg
      replace k0 := keeps hv k0
      replace hb := below_next hb (by have := hb.size; omega) hv
      try (replace hr := hr.up hv)
      try (replace hr5 := hr5.up hv)
      try (replace hr2 := hr2.up hv)
      try (replace k7 := keeps hv k7)
      clear hv
      refine segS_more [6, 10] (by kernel_rfl) (by decide) ?_
      intro j hj
      simp only [List.mem_cons, List.not_mem_nil, or_false] at hj
      rcases hj with rfl | rfl
      · refine ⟨by decide, _, rfl, ?_⟩
        intro v9 K2 hv hK
        replace k0 := keeps hv k0
        replace hb := below_next hb (by have := hb.size; omega) hv
        try (replace hr := hr.up hv)
        try (replace hr5 := hr5.up hv)
        try (replace hr2 := hr2.up hv)
        try (replace k7 := keeps hv k7)
        clear hv
        have hA2 := Lib.hid (hA.out v9 g q5 (hT.out.up hb) hr hr5)
        replace hK := Lib.hid hK
        go_simp
        refine hA2.out.mono ?_
        rintro e vb ⟨g2, rfl, hv, hg2, hr2⟩
        refine hK.out _ _ (HeldS.of_below hv) ?_
        have hgw2 : w.heap.size ≤ g2 := by have := hb.size; omega
        try (have h72 := Nat.lt_of_lt_of_le (lt_of_get k7) hg2)
        clear hK hA2 K2 hr hr5 hg2
        replace k0 := keeps hv k0
        replace hb := below_next hb (by have := hb.size; omega) hv
        try (replace hr := hr.up hv)
        try (replace hr5 := hr5.up hv)
        try (replace hr2 := hr2.up hv)
        try (replace k7 := keeps hv k7)
        clear hv
        refine segS_batch 3 [7, 8, 9] (by kernel_rfl) rfl (by kernel_rfl) (by kernel_rfl) (by kernel_rfl) ?_
        apply Exists.intro
        refine ⟨fun ι _ φ hφ => ?_, fun v4 hv => ?_⟩
        · iterate 3 (refine pick_step rfl ?_; go_big_quiet_step (fail))
          exact pick_end
        replace k0 := keeps hv k0
        replace hb := below_next hb (by have := hb.size; omega) hv
        try (replace hr := hr.up hv)
        try (replace hr5 := hr5.up hv)
        try (replace hr2 := hr2.up hv)
        try (replace k7 := keeps hv k7)
        clear hv
        refine segS_one 10 _ (by decide) rfl (by kernel_rfl) ?_
        intro v7 K2 hv hK
        replace k0 := keeps hv k0
        replace hb := below_next hb (by have := hb.size; omega) hv
        try (replace hr := hr.up hv)
        try (replace hr5 := hr5.up hv)
        try (replace hr2 := hr2.up hv)
        try (replace k7 := keeps hv k7)
        clear hv
        replace hK := Lib.hid hK
        go_simp
        have hv := (Below.refl v7.heap.size v7).alloc (Nat.le_refl _) (.cells #[.slice none 0 0, .int .i64 0, .int .u8 0, .int .u8 0, .int .u8 0, .int .u8 0, .int .u8 0, .int .u8 0, .int .u8 0, .int .u8 0, .int .u8 0, .int .u8 0, .int .u8 0, .int .u8 0, .int .u8 0, .int .u8 0, .int .u8 0, .int .u8 0] 39 (0, 0))
        refine hK.out _ _ (HeldS.of_below hv) ?_
        clear hK K2
        have k7 : (v7.alloc (.cells #[.slice none 0 0, .int .i64 0, .int .u8 0, .int .u8 0, .int .u8 0, .int .u8 0, .int .u8 0, .int .u8 0, .int .u8 0, .int .u8 0, .int .u8 0, .int .u8 0, .int .u8 0, .int .u8 0, .int .u8 0, .int .u8 0, .int .u8 0, .int .u8 0] 39 (0, 0))).heap[v7.heap.size]? = some (.cells noTot.toArray 39 (0, 0)) := alloc_at rfl
        have hq7 : w.heap.size ≤ v7.heap.size := hb.size
        have hqq : q < v7.heap.size := lt_of_get k0
        try (have h72 : g2 < v7.heap.size := lt_of_get hr2)
        replace k0 := keeps hv k0
        replace hb := below_next hb (by have := hb.size; omega) hv
        try (replace hr := hr.up hv)
        try (replace hr5 := hr5.up hv)
        try (replace hr2 := hr2.up hv)
        try (replace k7 := keeps hv k7)
        clear hv
        generalize v7.alloc (.cells #[.slice none 0 0, .int .i64 0, .int .u8 0, .int .u8 0, .int .u8 0, .int .u8 0, .int .u8 0, .int .u8 0, .int .u8 0, .int .u8 0, .int .u8 0, .int .u8 0, .int .u8 0, .int .u8 0, .int .u8 0, .int .u8 0, .int .u8 0, .int .u8 0] 39 (0, 0)) = v8 at *
        generalize v7.heap.size = q7 at *
        refine segS_one 11 _ (by decide) rfl (by kernel_rfl) ?_
        intro vc K2 hv hK
        replace k0 := keeps hv k0
        replace hb := below_next hb (by have := hb.size; omega) hv
        try (replace hr := hr.up hv)
        try (replace hr5 := hr5.up hv)
        try (replace hr2 := hr2.up hv)
        try (replace k7 := keeps hv k7)
        clear hv
        replace hK := Lib.hid hK
        obtain ⟨I, hI2⟩ : ∃ I, tot (.slice (some ⟨g2, 0, none⟩) 1 1) (0 + 1) H = I := ⟨_, rfl⟩
        have hIl : I.length = 18 := by rw [← hI2]; exact tot_len _ _ _
        have hone : ∀ u ∈ I, u.oneCell' = true := by rw [← hI2]; exact one_tot _ _
        have hbut : But q7 vc (vc.setCells q7 0 I) := (But.refl q7 vc).setCells I 0 vc
        have k8 : (vc.setCells q7 0 I).heap[q7]? = some (.cells I.toArray 39 (0, 0)) := by
          rw [heap_setCells _ _ _ _ _ _ _ k7, build_one _ _ (by rw [hIl]; rfl)]
        rw [if_pos (by kernel_rfl)]
        refine wp_store_mid 39 _ _ rfl q7 0 I.toArray rfl (by rw [← hI2]; rfl) (fun j hj => ?_) (by simp only [List.size_toArray, hIl]; exact info_total) (by simpa using hone) (hK.out _ _ ⟨hbut.os, hbut.tape, hbut.output, hbut.size, fun b hb hne => hbut.block b hb (by have : b ≤ q := hne; omega)⟩ ?_)
        · have hj' : j < 18 := by rw [← hIl]; simpa using hj
          simp [World.cell?, World.frozen?, k7]
          exact hj'
        have hbe : Below w.heap.size w (vc.setCells q7 0 I) := hbut.below hb hq7 hb.size
        have hr8 : Row (vc.setCells q7 0 I) g2 [5] := (hbut.block _ (lt_of_get hr2) (by omega)).trans hr2
        clear hK K2 hbut k7 hb hr2 k0
        generalize vc.setCells q7 0 I = vd at *
        rw [put_noneT]
        refine segS_batch 0 [12] (by kernel_rfl) rfl (by kernel_rfl) (by kernel_rfl) (by kernel_rfl) ?_
        apply Exists.intro
        refine ⟨fun ι _ φ hφ => ?_, fun v4 hv => ?_⟩
        · repeat (refine pick_step rfl ?_; go_big_quiet_step (fail))
          exact pick_end
        replace k8 := keeps hv k8
        replace hbe := below_next hbe hbe.size hv
        replace hr8 := hr8.up hv
        clear hv
        refine segS_done rfl (by kernel_rfl) ?_
        intro v5 hv
        replace k8 := keeps hv k8
        replace hbe := below_next hbe hbe.size hv
        replace hr8 := hr8.up hv
        clear hv
        subst hI2
        have hT8 := hT.out.up hbe
        have s0 := At0.of_block k8 0 (.slice (some ⟨g2, 0, none⟩) 1 1) rfl
        have s1 := At0.of_block k8 1 (.int .i64 (0 + 1)) rfl
        have s2 := sub_range (At0.of_block k8) 2 _ (tot_chk _ _ _)
        simp only [Nat.zero_add] at s0 s1
        go_wp2
        refine wp_region_flow0 (by kernel_rfl) (by kernel_rfl) ?_
        intro ι _ φ hφ
        have hT9 := Lib.hid (fun i => hT8.up (hφ.old i))
        have e0 := fun i => hφ.cell s0 i
        have e1 := fun i => hφ.cell s1 i
        have e3 : ∀ i, (φ i).cell? ⟨g2, 0, none⟩ = some (.int .u64 5) := fun i => hφ.cell (hr8.lo (k := 0) (by decide)) i
        have e4 : ∀ i, (φ i).cell? ⟨g2, 0 + 1, none⟩ = some (.int .u64 0) := fun i => hφ.cell (hr8.hi (k := 0) (by decide)) i
        clear hT8
        repeat (first
          | (refine quiet_load_mid _ _ _ 2 _ _ rfl rfl rfl (mid_family hφ s2) Tryd.underlying37 rfl (by rw [arr8_len]; kernel_rfl) ?_; simp only [Act.put, List.setIfInBounds_toArray, List.set_cons_succ, List.set_cons_zero])
          | go_big_quiet_step ((go_at_call 44; exact flow_call hφ (hI.out _ (hT9.out _)))))
        refine wpQuiet_nil ?_
        intro wz hv
        replace hbe := below_next hbe hbe.size hv
        clear hv
        go_wp2
        go_ret
        exact ⟨rfl, hbe⟩
      · refine ⟨by decide, _, rfl, ?_⟩
        intro v7 K2 hv hK
        replace k0 := keeps hv k0
        replace hb := below_next hb (by have := hb.size; omega) hv
        try (replace hr := hr.up hv)
        try (replace hr5 := hr5.up hv)
        try (replace hr2 := hr2.up hv)
        try (replace k7 := keeps hv k7)
        clear hv
        replace hK := Lib.hid hK
        go_simp
        have hv := (Below.refl v7.heap.size v7).alloc (Nat.le_refl _) (.cells #[.slice none 0 0, .int .i64 0, .int .u8 0, .int .u8 0, .int .u8 0, .int .u8 0, .int .u8 0, .int .u8 0, .int .u8 0, .int .u8 0, .int .u8 0, .int .u8 0, .int .u8 0, .int .u8 0, .int .u8 0, .int .u8 0, .int .u8 0, .int .u8 0] 39 (0, 0))
        refine hK.out _ _ (HeldS.of_below hv) ?_
        clear hK K2
        have k7 : (v7.alloc (.cells #[.slice none 0 0, .int .i64 0, .int .u8 0, .int .u8 0, .int .u8 0, .int .u8 0, .int .u8 0, .int .u8 0, .int .u8 0, .int .u8 0, .int .u8 0, .int .u8 0, .int .u8 0, .int .u8 0, .int .u8 0, .int .u8 0, .int .u8 0, .int .u8 0] 39 (0, 0))).heap[v7.heap.size]? = some (.cells noTot.toArray 39 (0, 0)) := alloc_at rfl
        have hq7 : w.heap.size ≤ v7.heap.size := hb.size
        have hqq : q < v7.heap.size := lt_of_get k0
        try (have h72 : g2 < v7.heap.size := lt_of_get hr2)
        replace k0 := keeps hv k0
        replace hb := below_next hb (by have := hb.size; omega) hv
        try (replace hr := hr.up hv)
        try (replace hr5 := hr5.up hv)
        try (replace hr2 := hr2.up hv)
        try (replace k7 := keeps hv k7)
        clear hv
        generalize v7.alloc (.cells #[.slice none 0 0, .int .i64 0, .int .u8 0, .int .u8 0, .int .u8 0, .int .u8 0, .int .u8 0, .int .u8 0, .int .u8 0, .int .u8 0, .int .u8 0, .int .u8 0, .int .u8 0, .int .u8 0, .int .u8 0, .int .u8 0, .int .u8 0, .int .u8 0] 39 (0, 0)) = v8 at *
        generalize v7.heap.size = q7 at *
        refine segS_one 6 _ (by decide) rfl (by kernel_rfl) ?_
        intro v9 K2 hv hK
        replace k0 := keeps hv k0
        replace hb := below_next hb (by have := hb.size; omega) hv
        try (replace hr := hr.up hv)
        try (replace hr5 := hr5.up hv)
        try (replace hr2 := hr2.up hv)
        try (replace k7 := keeps hv k7)
        clear hv
        have hA2 := Lib.hid (hA.out v9 g q5 (hT.out.up hb) hr hr5)
        replace hK := Lib.hid hK
        go_simp
        refine hA2.out.mono ?_
        rintro e vb ⟨g2, rfl, hv, hg2, hr2⟩
        refine hK.out _ _ (HeldS.of_below hv) ?_
        have hgw2 : w.heap.size ≤ g2 := by have := hb.size; omega
        try (have h72 := Nat.lt_of_lt_of_le (lt_of_get k7) hg2)
        clear hK hA2 K2 hr hr5 hg2
        replace k0 := keeps hv k0
        replace hb := below_next hb (by have := hb.size; omega) hv
        try (replace hr := hr.up hv)
        try (replace hr5 := hr5.up hv)
        try (replace hr2 := hr2.up hv)
        try (replace k7 := keeps hv k7)
        clear hv
        refine segS_batch 2 [7, 8, 9] (by kernel_rfl) rfl (by kernel_rfl) (by kernel_rfl) (by kernel_rfl) ?_
        apply Exists.intro
        refine ⟨fun ι _ φ hφ => ?_, fun v4 hv => ?_⟩
        · iterate 3 (refine pick_step rfl ?_; go_big_quiet_step (fail))
          exact pick_end
        replace k0 := keeps hv k0
        replace hb := below_next hb (by have := hb.size; omega) hv
        try (replace hr := hr.up hv)
        try (replace hr5 := hr5.up hv)
        try (replace hr2 := hr2.up hv)
        try (replace k7 := keeps hv k7)
        clear hv
        refine segS_one 11 _ (by decide) rfl (by kernel_rfl) ?_
        intro vc K2 hv hK
        replace k0 := keeps hv k0
        replace hb := below_next hb (by have := hb.size; omega) hv
        try (replace hr := hr.up hv)
        try (replace hr5 := hr5.up hv)
        try (replace hr2 := hr2.up hv)
        try (replace k7 := keeps hv k7)
        clear hv
        replace hK := Lib.hid hK
        obtain ⟨I, hI2⟩ : ∃ I, tot (.slice (some ⟨g2, 0, none⟩) 1 1) (0 + 1) H = I := ⟨_, rfl⟩
        have hIl : I.length = 18 := by rw [← hI2]; exact tot_len _ _ _
        have hone : ∀ u ∈ I, u.oneCell' = true := by rw [← hI2]; exact one_tot _ _
        have hbut : But q7 vc (vc.setCells q7 0 I) := (But.refl q7 vc).setCells I 0 vc
        have k8 : (vc.setCells q7 0 I).heap[q7]? = some (.cells I.toArray 39 (0, 0)) := by
          rw [heap_setCells _ _ _ _ _ _ _ k7, build_one _ _ (by rw [hIl]; rfl)]
        rw [if_pos (by kernel_rfl)]
        refine wp_store_mid 39 _ _ rfl q7 0 I.toArray rfl (by rw [← hI2]; rfl) (fun j hj => ?_) (by simp only [List.size_toArray, hIl]; exact info_total) (by simpa using hone) (hK.out _ _ ⟨hbut.os, hbut.tape, hbut.output, hbut.size, fun b hb hne => hbut.block b hb (by have : b ≤ q := hne; omega)⟩ ?_)
        · have hj' : j < 18 := by rw [← hIl]; simpa using hj
          simp [World.cell?, World.frozen?, k7]
          exact hj'
        have hbe : Below w.heap.size w (vc.setCells q7 0 I) := hbut.below hb hq7 hb.size
        have hr8 : Row (vc.setCells q7 0 I) g2 [5] := (hbut.block _ (lt_of_get hr2) (by omega)).trans hr2
        clear hK K2 hbut k7 hb hr2 k0
        generalize vc.setCells q7 0 I = vd at *
        rw [put_noneT]
        refine segS_batch 0 [12] (by kernel_rfl) rfl (by kernel_rfl) (by kernel_rfl) (by kernel_rfl) ?_
        apply Exists.intro
        refine ⟨fun ι _ φ hφ => ?_, fun v4 hv => ?_⟩
        · repeat (refine pick_step rfl ?_; go_big_quiet_step (fail))
          exact pick_end
        replace k8 := keeps hv k8
        replace hbe := below_next hbe hbe.size hv
        replace hr8 := hr8.up hv
        clear hv
        refine segS_done rfl (by kernel_rfl) ?_
        intro v5 hv
        replace k8 := keeps hv k8
        replace hbe := below_next hbe hbe.size hv
        replace hr8 := hr8.up hv
        clear hv
        subst hI2
        have hT8 := hT.out.up hbe
        have s0 := At0.of_block k8 0 (.slice (some ⟨g2, 0, none⟩) 1 1) rfl
        have s1 := At0.of_block k8 1 (.int .i64 (0 + 1)) rfl
        have s2 := sub_range (At0.of_block k8) 2 _ (tot_chk _ _ _)
        simp only [Nat.zero_add] at s0 s1
        go_wp2
        refine wp_region_flow0 (by kernel_rfl) (by kernel_rfl) ?_
        intro ι _ φ hφ
        have hT9 := Lib.hid (fun i => hT8.up (hφ.old i))
        have e0 := fun i => hφ.cell s0 i
        have e1 := fun i => hφ.cell s1 i
        have e3 : ∀ i, (φ i).cell? ⟨g2, 0, none⟩ = some (.int .u64 5) := fun i => hφ.cell (hr8.lo (k := 0) (by decide)) i
        have e4 : ∀ i, (φ i).cell? ⟨g2, 0 + 1, none⟩ = some (.int .u64 0) := fun i => hφ.cell (hr8.hi (k := 0) (by decide)) i
        clear hT8
        repeat (first
          | (refine quiet_load_mid _ _ _ 2 _ _ rfl rfl rfl (mid_family hφ s2) Tryd.underlying37 rfl (by rw [arr8_len]; kernel_rfl) ?_; simp only [Act.put, List.setIfInBounds_toArray, List.set_cons_succ, List.set_cons_zero])
          | go_big_quiet_step ((go_at_call 44; exact flow_call hφ (hI.out _ (hT9.out _)))))
        refine wpQuiet_nil ?_
        intro wz hv
        replace hbe := below_next hbe hbe.size hv
        clear hv
        go_wp2
        go_ret
        exact ⟨rfl, hbe⟩
    · refine ⟨by decide, _, rfl, ?_⟩
      intro v7 K2 hv hK
      replace k0 := keeps hv k0
      replace hb := below_next hb (by have := hb.size; omega) hv
      try (replace hr := hr.up hv)
      try (replace hr5 := hr5.up hv)
      try (replace hr2 := hr2.up hv)
      try (replace k7 := keeps hv k7)
      clear hv
      replace hK := Lib.hid hK
      go_simp
      have hv := (Below.refl v7.heap.size v7).alloc (Nat.le_refl _) (.cells #[.slice none 0 0, .int .i64 0, .int .u8 0, .int .u8 0, .int .u8 0, .int .u8 0, .int .u8 0, .int .u8 0, .int .u8 0, .int .u8 0, .int .u8 0, .int .u8 0, .int .u8 0, .int .u8 0, .int .u8 0, .int .u8 0, .int .u8 0, .int .u8 0] 39 (0, 0))
      refine hK.out _ _ (HeldS.of_below hv) ?_
      clear hK K2
      have k7 : (v7.alloc (.cells #[.slice none 0 0, .int .i64 0, .int .u8 0, .int .u8 0, .int .u8 0, .int .u8 0, .int .u8 0, .int .u8 0, .int .u8 0, .int .u8 0, .int .u8 0, .int .u8 0, .int .u8 0, .int .u8 0, .int .u8 0, .int .u8 0, .int .u8 0, .int .u8 0] 39 (0, 0))).heap[v7.heap.size]? = some (.cells noTot.toArray 39 (0, 0)) := alloc_at rfl
      have hq7 : w.heap.size ≤ v7.heap.size := hb.size
      have hqq : q < v7.heap.size := lt_of_get k0
      try (have h72 : g2 < v7.heap.size := lt_of_get hr2)
      replace k0 := keeps hv k0
      replace hb := below_next hb (by have := hb.size; omega) hv
      try (replace hr := hr.up hv)
      try (replace hr5 := hr5.up hv)
      try (replace hr2 := hr2.up hv)
      try (replace k7 := keeps hv k7)
      clear hv
      generalize v7.alloc (.cells #[.slice none 0 0, .int .i64 0, .int .u8 0, .int .u8 0, .int .u8 0, .int .u8 0, .int .u8 0, .int .u8 0, .int .u8 0, .int .u8 0, .int .u8 0, .int .u8 0, .int .u8 0, .int .u8 0, .int .u8 0, .int .u8 0, .int .u8 0, .int .u8 0] 39 (0, 0)) = v8 at *
      generalize v7.heap.size = q7 at *
      refine segS_one 1 _ (by decide) rfl (by kernel_rfl) ?_
      intro v2 K2 hv hK
      replace k0 := keeps hv k0
      replace hb := below_next hb (by have := hb.size; omega) hv
      try (replace hr := hr.up hv)
      try (replace hr5 := hr5.up hv)
      try (replace hr2 := hr2.up hv)
      try (replace k7 := keeps hv k7)
      clear hv
      replace hK := Lib.hid hK
      go_simp
      refine (hN.out _).mono ?_
      rintro e v3 ⟨g, rfl, hv, hg, hr⟩
      refine hK.out _ _ (HeldS.of_below hv) ?_
      have hgw : w.heap.size ≤ g := by have := hb.size; omega
      clear hK K2 hg
      replace k0 := keeps hv k0
      replace hb := below_next hb (by have := hb.size; omega) hv
      try (replace hr := hr.up hv)
      try (replace hr5 := hr5.up hv)
      try (replace hr2 := hr2.up hv)
      try (replace k7 := keeps hv k7)
      clear hv
      refine segS_one 6 _ (by decide) rfl (by kernel_rfl) ?_
      intro v9 K2 hv hK
      replace k0 := keeps hv k0
      replace hb := below_next hb (by have := hb.size; omega) hv
      try (replace hr := hr.up hv)
      try (replace hr5 := hr5.up hv)
      try (replace hr2 := hr2.up hv)
      try (replace k7 := keeps hv k7)
      clear hv
      have hA2 := Lib.hid (hA.out v9 g q5 (hT.out.up hb) hr hr5)
      replace hK := Lib.hid hK
      go_simp
      refine hA2.out.mono ?_
      rintro e vb ⟨g2, rfl, hv, hg2, hr2⟩
      refine hK.out _ _ (HeldS.of_below hv) ?_
      have hgw2 : w.heap.size ≤ g2 := by have := hb.size; omega
      try (have h72 := Nat.lt_of_lt_of_le (lt_of_get k7) hg2)
      clear hK hA2 K2 hr hr5 hg2
      replace k0 := keeps hv k0
      replace hb := below_next hb (by have := hb.size; omega) hv
      try (replace hr := hr.up hv)
      try (replace hr5 := hr5.up hv)
      try (replace hr2 := hr2.up hv)
      try (replace k7 := keeps hv k7)
      clear hv
      refine segS_batch 2 [7, 8, 9] (by kernel_rfl) rfl (by kernel_rfl) (by kernel_rfl) (by kernel_rfl) ?_
      apply Exists.intro
      refine ⟨fun ι _ φ hφ => ?_, fun v4 hv => ?_⟩
      · iterate 3 (refine pick_step rfl ?_; go_big_quiet_step (fail))
        exact pick_end
      replace k0 := keeps hv k0
      replace hb := below_next hb (by have := hb.size; omega) hv
      try (replace hr := hr.up hv)
      try (replace hr5 := hr5.up hv)
      try (replace hr2 := hr2.up hv)
      try (replace k7 := keeps hv k7)
      clear hv
      refine segS_one 11 _ (by decide) rfl (by kernel_rfl) ?_
      intro vc K2 hv hK
      replace k0 := keeps hv k0
      replace hb := below_next hb (by have := hb.size; omega) hv
      try (replace hr := hr.up hv)
      try (replace hr5 := hr5.up hv)
      try (replace hr2 := hr2.up hv)
      try (replace k7 := keeps hv k7)
      clear hv
      replace hK := Lib.hid hK
      obtain ⟨I, hI2⟩ : ∃ I, tot (.slice (some ⟨g2, 0, none⟩) 1 1) (0 + 1) H = I := ⟨_, rfl⟩
      have hIl : I.length = 18 := by rw [← hI2]; exact tot_len _ _ _
      have hone : ∀ u ∈ I, u.oneCell' = true := by rw [← hI2]; exact one_tot _ _
      have hbut : But q7 vc (vc.setCells q7 0 I) := (But.refl q7 vc).setCells I 0 vc
      have k8 : (vc.setCells q7 0 I).heap[q7]? = some (.cells I.toArray 39 (0, 0)) := by
        rw [heap_setCells _ _ _ _ _ _ _ k7, build_one _ _ (by rw [hIl]; rfl)]
      rw [if_pos (by kernel_rfl)]
      refine wp_store_mid 39 _ _ rfl q7 0 I.toArray rfl (by rw [← hI2]; rfl) (fun j hj => ?_) (by simp only [List.size_toArray, hIl]; exact info_total) (by simpa using hone) (hK.out _ _ ⟨hbut.os, hbut.tape, hbut.output, hbut.size, fun b hb hne => hbut.block b hb (by have : b ≤ q := hne; omega)⟩ ?_)
      · have hj' : j < 18 := by rw [← hIl]; simpa using hj
        simp [World.cell?, World.frozen?, k7]
        exact hj'
      have hbe : Below w.heap.size w (vc.setCells q7 0 I) := hbut.below hb hq7 hb.size
      have hr8 : Row (vc.setCells q7 0 I) g2 [5] := (hbut.block _ (lt_of_get hr2) (by omega)).trans hr2
      clear hK K2 hbut k7 hb hr2 k0
      generalize vc.setCells q7 0 I = vd at *
      rw [put_noneT]
      refine segS_batch 0 [12] (by kernel_rfl) rfl (by kernel_rfl) (by kernel_rfl) (by kernel_rfl) ?_
      apply Exists.intro
      refine ⟨fun ι _ φ hφ => ?_, fun v4 hv => ?_⟩
      · repeat (refine pick_step rfl ?_; go_big_quiet_step (fail))
        exact pick_end
      replace k8 := keeps hv k8
      replace hbe := below_next hbe hbe.size hv
      replace hr8 := hr8.up hv
      clear hv
      refine segS_done rfl (by kernel_rfl) ?_
      intro v5 hv
      replace k8 := keeps hv k8
      replace hbe := below_next hbe hbe.size hv
      replace hr8 := hr8.up hv
      clear hv
      subst hI2
      have hT8 := hT.out.up hbe
      have s0 := At0.of_block k8 0 (.slice (some ⟨g2, 0, none⟩) 1 1) rfl
      have s1 := At0.of_block k8 1 (.int .i64 (0 + 1)) rfl
      have s2 := sub_range (At0.of_block k8) 2 _ (tot_chk _ _ _)
      simp only [Nat.zero_add] at s0 s1
      go_wp2
      refine wp_region_flow0 (by kernel_rfl) (by kernel_rfl) ?_
      intro ι _ φ hφ
      have hT9 := Lib.hid (fun i => hT8.up (hφ.old i))
      have e0 := fun i => hφ.cell s0 i
      have e1 := fun i => hφ.cell s1 i
      have e3 : ∀ i, (φ i).cell? ⟨g2, 0, none⟩ = some (.int .u64 5) := fun i => hφ.cell (hr8.lo (k := 0) (by decide)) i
      have e4 : ∀ i, (φ i).cell? ⟨g2, 0 + 1, none⟩ = some (.int .u64 0) := fun i => hφ.cell (hr8.hi (k := 0) (by decide)) i
      clear hT8
      repeat (first
        | (refine quiet_load_mid _ _ _ 2 _ _ rfl rfl rfl (mid_family hφ s2) Tryd.underlying37 rfl (by rw [arr8_len]; kernel_rfl) ?_; simp only [Act.put, List.setIfInBounds_toArray, List.set_cons_succ, List.set_cons_zero])
        | go_big_quiet_step ((go_at_call 44; exact flow_call hφ (hI.out _ (hT9.out _)))))
      refine wpQuiet_nil ?_
      intro wz hv
      replace hbe := below_next hbe hbe.size hv
      clear hv
      go_wp2
      go_ret
      exact ⟨rfl, hbe⟩
  · refine ⟨by decide, _, rfl, ?_⟩
    intro v7 K2 hv hK
    replace k0 := keeps hv k0
    replace hb := below_next hb (by have := hb.size; omega) hv
    try (replace hr := hr.up hv)
    try (replace hr5 := hr5.up hv)
    try (replace hr2 := hr2.up hv)
    try (replace k7 := keeps hv k7)
    clear hv
    replace hK := Lib.hid hK
    go_simp
    have hv := (Below.refl v7.heap.size v7).alloc (Nat.le_refl _) (.cells #[.slice none 0 0, .int .i64 0, .int .u8 0, .int .u8 0, .int .u8 0, .int .u8 0, .int .u8 0, .int .u8 0, .int .u8 0, .int .u8 0, .int .u8 0, .int .u8 0, .int .u8 0, .int .u8 0, .int .u8 0, .int .u8 0, .int .u8 0, .int .u8 0] 39 (0, 0))
    refine hK.out _ _ (HeldS.of_below hv) ?_
    clear hK K2
    have k7 : (v7.alloc (.cells #[.slice none 0 0, .int .i64 0, .int .u8 0, .int .u8 0, .int .u8 0, .int .u8 0, .int .u8 0, .int .u8 0, .int .u8 0, .int .u8 0, .int .u8 0, .int .u8 0, .int .u8 0, .int .u8 0, .int .u8 0, .int .u8 0, .int .u8 0, .int .u8 0] 39 (0, 0))).heap[v7.heap.size]? = some (.cells noTot.toArray 39 (0, 0)) := alloc_at rfl
    have hq7 : w.heap.size ≤ v7.heap.size := hb.size
    have hqq : q < v7.heap.size := lt_of_get k0
    try (have h72 : g2 < v7.heap.size := lt_of_get hr2)
    replace k0 := keeps hv k0
    replace hb := below_next hb (by have := hb.size; omega) hv
    try (replace hr := hr.up hv)
    try (replace hr5 := hr5.up hv)
    try (replace hr2 := hr2.up hv)
    try (replace k7 := keeps hv k7)
    clear hv
    generalize v7.alloc (.cells #[.slice none 0 0, .int .i64 0, .int .u8 0, .int .u8 0, .int .u8 0, .int .u8 0, .int .u8 0, .int .u8 0, .int .u8 0, .int .u8 0, .int .u8 0, .int .u8 0, .int .u8 0, .int .u8 0, .int .u8 0, .int .u8 0, .int .u8 0, .int .u8 0] 39 (0, 0)) = v8 at *
    generalize v7.heap.size = q7 at *
    refine segS_more [1, 5] (by kernel_rfl) (by decide) ?_
    intro j hj
    simp only [List.mem_cons, List.not_mem_nil, or_false] at hj
    rcases hj with rfl | rfl
    · refine ⟨by decide, _, rfl, ?_⟩
      intro v2 K2 hv hK
      replace k0 := keeps hv k0
      replace hb := below_next hb (by have := hb.size; omega) hv
      try (replace hr := hr.up hv)
      try (replace hr5 := hr5.up hv)
      try (replace hr2 := hr2.up hv)
      try (replace k7 := keeps hv k7)
      clear hv
      replace hK := Lib.hid hK
      go_simp
      refine (hN.out _).mono ?_
      rintro e v3 ⟨g, rfl, hv, hg, hr⟩
      refine hK.out _ _ (HeldS.of_below hv) ?_
      have hgw : w.heap.size ≤ g := by have := hb.size; omega
      clear hK K2 hg
      replace k0 := keeps hv k0
      replace hb := below_next hb (by have := hb.size; omega) hv
      try (replace hr := hr.up hv)
      try (replace hr5 := hr5.up hv)
      try (replace hr2 := hr2.up hv)
      try (replace k7 := keeps hv k7)
      clear hv
      refine segS_one 5 _ (by decide) rfl (by kernel_rfl) ?_
      intro v5 K2 hv hK
      replace k0 := keeps hv k0
      replace hb := below_next hb (by have := hb.size; omega) hv
      try (replace hr := hr.up hv)
      try (replace hr5 := hr5.up hv)
      try (replace hr2 := hr2.up hv)
      try (replace k7 := keeps hv k7)
      clear hv
      replace hK := Lib.hid hK
      go_simp
      have hv := (Below.refl v5.heap.size v5).alloc (Nat.le_refl _) (.cells #[.int .u64 5, .int .u64 0] 65 (0, 0))
      refine hK.out _ _ (HeldS.of_below hv) ?_
      clear hK K2
      have hr5 : Row (v5.alloc (.cells #[.int .u64 5, .int .u64 0] 65 (0, 0))) v5.heap.size [5] := alloc_at rfl
      replace k0 := keeps hv k0
      replace hb := below_next hb (by have := hb.size; omega) hv
      try (replace hr := hr.up hv)
      try (replace hr5 := hr5.up hv)
      try (replace hr2 := hr2.up hv)
      try (replace k7 := keeps hv k7)
      clear hv
      generalize v5.alloc (.cells #[.int .u64 5, .int .u64 0] 65 (0, 0)) = v6 at *
      generalize v5.heap.size = q5 at *
      refine segS_one 6 _ (by decide) rfl (by kernel_rfl) ?_
      intro v9 K2 hv hK
      replace k0 := keeps hv k0
      replace hb := below_next hb (by have := hb.size; omega) hv
      try (replace hr := hr.up hv)
      try (replace hr5 := hr5.up hv)
      try (replace hr2 := hr2.up hv)
      try (replace k7 := keeps hv k7)
      clear hv
      have hA2 := Lib.hid (hA.out v9 g q5 (hT.out.up hb) hr hr5)
      replace hK := Lib.hid hK
      go_simp
      refine hA2.out.mono ?_
      rintro e vb ⟨g2, rfl, hv, hg2, hr2⟩
      refine hK.out _ _ (HeldS.of_below hv) ?_
      have hgw2 : w.heap.size ≤ g2 := by have := hb.size; omega
      try (have h72 := Nat.lt_of_lt_of_le (lt_of_get k7) hg2)
      clear hK hA2 K2 hr hr5 hg2
      replace k0 := keeps hv k0
      replace hb := below_next hb (by have := hb.size; omega) hv
      try (replace hr := hr.up hv)
      try (replace hr5 := hr5.up hv)
      try (replace hr2 := hr2.up hv)
      try (replace k7 := keeps hv k7)
      clear hv
      refine segS_batch 2 [7, 8, 9] (by kernel_rfl) rfl (by kernel_rfl) (by kernel_rfl) (by kernel_rfl) ?_
      apply Exists.intro
      refine ⟨fun ι _ φ hφ => ?_, fun v4 hv => ?_⟩
      · iterate 3 (refine pick_step rfl ?_; go_big_quiet_step (fail))
        exact pick_end
      replace k0 := keeps hv k0
      replace hb := below_next hb (by have := hb.size; omega) hv
      try (replace hr := hr.up hv)
      try (replace hr5 := hr5.up hv)
      try (replace hr2 := hr2.up hv)
      try (replace k7 := keeps hv k7)
      clear hv
      refine segS_one 11 _ (by decide) rfl (by kernel_rfl) ?_
      intro vc K2 hv hK
      replace k0 := keeps hv k0
      replace hb := below_next hb (by have := hb.size; omega) hv
      try (replace hr := hr.up hv)
      try (replace hr5 := hr5.up hv)
      try (replace hr2 := hr2.up hv)
      try (replace k7 := keeps hv k7)
      clear hv
      replace hK := Lib.hid hK
      obtain ⟨I, hI2⟩ : ∃ I, tot (.slice (some ⟨g2, 0, none⟩) 1 1) (0 + 1) H = I := ⟨_, rfl⟩
      have hIl : I.length = 18 := by rw [← hI2]; exact tot_len _ _ _
      have hone : ∀ u ∈ I, u.oneCell' = true := by rw [← hI2]; exact one_tot _ _
      have hbut : But q7 vc (vc.setCells q7 0 I) := (But.refl q7 vc).setCells I 0 vc
      have k8 : (vc.setCells q7 0 I).heap[q7]? = some (.cells I.toArray 39 (0, 0)) := by
        rw [heap_setCells _ _ _ _ _ _ _ k7, build_one _ _ (by rw [hIl]; rfl)]
      rw [if_pos (by kernel_rfl)]
      refine wp_store_mid 39 _ _ rfl q7 0 I.toArray rfl (by rw [← hI2]; rfl) (fun j hj => ?_) (by simp only [List.size_toArray, hIl]; exact info_total) (by simpa using hone) (hK.out _ _ ⟨hbut.os, hbut.tape, hbut.output, hbut.size, fun b hb hne => hbut.block b hb (by have : b ≤ q := hne; omega)⟩ ?_)
      · have hj' : j < 18 := by rw [← hIl]; simpa using hj
        simp [World.cell?, World.frozen?, k7]
        exact hj'
      have hbe : Below w.heap.size w (vc.setCells q7 0 I) := hbut.below hb hq7 hb.size
      have hr8 : Row (vc.setCells q7 0 I) g2 [5] := (hbut.block _ (lt_of_get hr2) (by omega)).trans hr2
      clear hK K2 hbut k7 hb hr2 k0
      generalize vc.setCells q7 0 I = vd at *
      rw [put_noneT]
      refine segS_batch 0 [12] (by kernel_rfl) rfl (by kernel_rfl) (by kernel_rfl) (by kernel_rfl) ?_
      apply Exists.intro
      refine ⟨fun ι _ φ hφ => ?_, fun v4 hv => ?_⟩
      · repeat (refine pick_step rfl ?_; go_big_quiet_step (fail))
        exact pick_end
      replace k8 := keeps hv k8
      replace hbe := below_next hbe hbe.size hv
      replace hr8 := hr8.up hv
      clear hv
      refine segS_done rfl (by kernel_rfl) ?_
      intro v5 hv
      replace k8 := keeps hv k8
      replace hbe := below_next hbe hbe.size hv
      replace hr8 := hr8.up hv
      clear hv
      subst hI2
      have hT8 := hT.out.up hbe
      have s0 := At0.of_block k8 0 (.slice (some ⟨g2, 0, none⟩) 1 1) rfl
      have s1 := At0.of_block k8 1 (.int .i64 (0 + 1)) rfl
      have s2 := sub_range (At0.of_block k8) 2 _ (tot_chk _ _ _)
      simp only [Nat.zero_add] at s0 s1
      go_wp2
      refine wp_region_flow0 (by kernel_rfl) (by kernel_rfl) ?_
      intro ι _ φ hφ
      have hT9 := Lib.hid (fun i => hT8.up (hφ.old i))
      have e0 := fun i => hφ.cell s0 i
      have e1 := fun i => hφ.cell s1 i
      have e3 : ∀ i, (φ i).cell? ⟨g2, 0, none⟩ = some (.int .u64 5) := fun i => hφ.cell (hr8.lo (k := 0) (by decide)) i
      have e4 : ∀ i, (φ i).cell? ⟨g2, 0 + 1, none⟩ = some (.int .u64 0) := fun i => hφ.cell (hr8.hi (k := 0) (by decide)) i
      clear hT8
      repeat (first
        | (refine quiet_load_mid _ _ _ 2 _ _ rfl rfl rfl (mid_family hφ s2) Tryd.underlying37 rfl (by rw [arr8_len]; kernel_rfl) ?_; simp only [Act.put, List.setIfInBounds_toArray, List.set_cons_succ, List.set_cons_zero])
        | go_big_quiet_step ((go_at_call 44; exact flow_call hφ (hI.out _ (hT9.out _)))))
      refine wpQuiet_nil ?_
      intro wz hv
      replace hbe := below_next hbe hbe.size hv
      clear hv
      go_wp2
      go_ret
      exact ⟨rfl, hbe⟩
    · refine ⟨by decide, _, rfl, ?_⟩
      intro v5 K2 hv hK
      replace k0 := keeps hv k0
      replace hb := below_next hb (by have := hb.size; omega) hv
      try (replace hr := hr.up hv)
      try (replace hr5 := hr5.up hv)
      try (replace hr2 := hr2.up hv)
      try (replace k7 := keeps hv k7)
      clear hv
      replace hK := Lib.hid hK
      go_simp
      have hv := (Below.refl v5.heap.size v5).alloc (Nat.le_refl _) (.cells #[.int .u64 5, .int .u64 0] 65 (0, 0))
      refine hK.out _ _ (HeldS.of_below hv) ?_
      clear hK K2
      have hr5 : Row (v5.alloc (.cells #[.int .u64 5, .int .u64 0] 65 (0, 0))) v5.heap.size [5] := alloc_at rfl
      replace k0 := keeps hv k0
      replace hb := below_next hb (by have := hb.size; omega) hv
      try (replace hr := hr.up hv)
      try (replace hr5 := hr5.up hv)
      try (replace hr2 := hr2.up hv)
      try (replace k7 := keeps hv k7)
      clear hv
      generalize v5.alloc (.cells #[.int .u64 5, .int .u64 0] 65 (0, 0)) = v6 at *
      generalize v5.heap.size = q5 at *
      refine segS_one 1 _ (by decide) rfl (by kernel_rfl) ?_
      intro v2 K2 hv hK
      replace k0 := keeps hv k0
      replace hb := below_next hb (by have := hb.size; omega) hv
      try (replace hr := hr.up hv)
      try (replace hr5 := hr5.up hv)
      try (replace hr2 := hr2.up hv)
      try (replace k7 := keeps hv k7)
      clear hv
      replace hK := Lib.hid hK
      go_simp
      refine (hN.out _).mono ?_
      rintro e v3 ⟨g, rfl, hv, hg, hr⟩
      refine hK.out _ _ (HeldS.of_below hv) ?_
      have hgw : w.heap.size ≤ g := by have := hb.size; omega
      clear hK K2 hg
      replace k0 := keeps hv k0
      replace hb := below_next hb (by have := hb.size; omega) hv
      try (replace hr := hr.up hv)
      try (replace hr5 := hr5.up hv)
      try (replace hr2 := hr2.up hv)
      try (replace k7 := keeps hv k7)
      clear hv
      refine segS_one 6 _ (by decide) rfl (by kernel_rfl) ?_
      intro v9 K2 hv hK
      replace k0 := keeps hv k0
      replace hb := below_next hb (by have := hb.size; omega) hv
      try (replace hr := hr.up hv)
      try (replace hr5 := hr5.up hv)
      try (replace hr2 := hr2.up hv)
      try (replace k7 := keeps hv k7)
      clear hv
      have hA2 := Lib.hid (hA.out v9 g q5 (hT.out.up hb) hr hr5)
      replace hK := Lib.hid hK
      go_simp
      refine hA2.out.mono ?_
      rintro e vb ⟨g2, rfl, hv, hg2, hr2⟩
      refine hK.out _ _ (HeldS.of_below hv) ?_
      have hgw2 : w.heap.size ≤ g2 := by have := hb.size; omega
      try (have h72 := Nat.lt_of_lt_of_le (lt_of_get k7) hg2)
      clear hK hA2 K2 hr hr5 hg2
      replace k0 := keeps hv k0
      replace hb := below_next hb (by have := hb.size; omega) hv
      try (replace hr := hr.up hv)
      try (replace hr5 := hr5.up hv)
      try (replace hr2 := hr2.up hv)
      try (replace k7 := keeps hv k7)
      clear hv
      refine segS_batch 2 [7, 8, 9] (by kernel_rfl) rfl (by kernel_rfl) (by kernel_rfl) (by kernel_rfl) ?_
      apply Exists.intro
      refine ⟨fun ι _ φ hφ => ?_, fun v4 hv => ?_⟩
      · iterate 3 (refine pick_step rfl ?_; go_big_quiet_step (fail))
        exact pick_end
      replace k0 := keeps hv k0
      replace hb := below_next hb (by have := hb.size; omega) hv
      try (replace hr := hr.up hv)
      try (replace hr5 := hr5.up hv)
      try (replace hr2 := hr2.up hv)
      try (replace k7 := keeps hv k7)
      clear hv
      refine segS_one 11 _ (by decide) rfl (by kernel_rfl) ?_
      intro vc K2 hv hK
      replace k0 := keeps hv k0
      replace hb := below_next hb (by have := hb.size; omega) hv
      try (replace hr := hr.up hv)
      try (replace hr5 := hr5.up hv)
      try (replace hr2 := hr2.up hv)
      try (replace k7 := keeps hv k7)
      clear hv
      replace hK := Lib.hid hK
      obtain ⟨I, hI2⟩ : ∃ I, tot (.slice (some ⟨g2, 0, none⟩) 1 1) (0 + 1) H = I := ⟨_, rfl⟩
      have hIl : I.length = 18 := by rw [← hI2]; exact tot_len _ _ _
      have hone : ∀ u ∈ I, u.oneCell' = true := by rw [← hI2]; exact one_tot _ _
      have hbut : But q7 vc (vc.setCells q7 0 I) := (But.refl q7 vc).setCells I 0 vc
      have k8 : (vc.setCells q7 0 I).heap[q7]? = some (.cells I.toArray 39 (0, 0)) := by
        rw [heap_setCells _ _ _ _ _ _ _ k7, build_one _ _ (by rw [hIl]; rfl)]
      rw [if_pos (by kernel_rfl)]
      refine wp_store_mid 39 _ _ rfl q7 0 I.toArray rfl (by rw [← hI2]; rfl) (fun j hj => ?_) (by simp only [List.size_toArray, hIl]; exact info_total) (by simpa using hone) (hK.out _ _ ⟨hbut.os, hbut.tape, hbut.output, hbut.size, fun b hb hne => hbut.block b hb (by have : b ≤ q := hne; omega)⟩ ?_)
      · have hj' : j < 18 := by rw [← hIl]; simpa using hj
        simp [World.cell?, World.frozen?, k7]
        exact hj'
      have hbe : Below w.heap.size w (vc.setCells q7 0 I) := hbut.below hb hq7 hb.size
      have hr8 : Row (vc.setCells q7 0 I) g2 [5] := (hbut.block _ (lt_of_get hr2) (by omega)).trans hr2
      clear hK K2 hbut k7 hb hr2 k0
      generalize vc.setCells q7 0 I = vd at *
      rw [put_noneT]
      refine segS_batch 0 [12] (by kernel_rfl) rfl (by kernel_rfl) (by kernel_rfl) (by kernel_rfl) ?_
      apply Exists.intro
      refine ⟨fun ι _ φ hφ => ?_, fun v4 hv => ?_⟩
      · repeat (refine pick_step rfl ?_; go_big_quiet_step (fail))
        exact pick_end
      replace k8 := keeps hv k8
      replace hbe := below_next hbe hbe.size hv
      replace hr8 := hr8.up hv
      clear hv
      refine segS_done rfl (by kernel_rfl) ?_
      intro v5 hv
      replace k8 := keeps hv k8
      replace hbe := below_next hbe hbe.size hv
      replace hr8 := hr8.up hv
      clear hv
      subst hI2
      have hT8 := hT.out.up hbe
      have s0 := At0.of_block k8 0 (.slice (some ⟨g2, 0, none⟩) 1 1) rfl
      have s1 := At0.of_block k8 1 (.int .i64 (0 + 1)) rfl
      have s2 := sub_range (At0.of_block k8) 2 _ (tot_chk _ _ _)
      simp only [Nat.zero_add] at s0 s1
      go_wp2
      refine wp_region_flow0 (by kernel_rfl) (by kernel_rfl) ?_
      intro ι _ φ hφ
      have hT9 := Lib.hid (fun i => hT8.up (hφ.old i))
      have e0 := fun i => hφ.cell s0 i
      have e1 := fun i => hφ.cell s1 i
      have e3 : ∀ i, (φ i).cell? ⟨g2, 0, none⟩ = some (.int .u64 5) := fun i => hφ.cell (hr8.lo (k := 0) (by decide)) i
      have e4 : ∀ i, (φ i).cell? ⟨g2, 0 + 1, none⟩ = some (.int .u64 0) := fun i => hφ.cell (hr8.hi (k := 0) (by decide)) i
      clear hT8
      repeat (first
        | (refine quiet_load_mid _ _ _ 2 _ _ rfl rfl rfl (mid_family hφ s2) Tryd.underlying37 rfl (by rw [arr8_len]; kernel_rfl) ?_; simp only [Act.put, List.setIfInBounds_toArray, List.set_cons_succ, List.set_cons_zero])
        | go_big_quiet_step ((go_at_call 44; exact flow_call hφ (hI.out _ (hT9.out _)))))
      refine wpQuiet_nil ?_
      intro wz hv
      replace hbe := below_next hbe hbe.size hv
      clear hv
      go_wp2
      go_ret
      exact ⟨rfl, hbe⟩
end Go.Proofs.YtpojhomccmfffaaDoor

/-
  Totals: what can't be unsharded, or taken; two totals held against each other.
-/
namespace Go.Proofs.YtpojhomccmfffaaDoor
open Go.RowKit Flow F
set_option linter.unusedVariables false
set_option linter.unusedSimpArgs false
attribute [local go_sem] eqlIn_chkC

set_option maxRecDepth 20000 in
set_option maxHeartbeats 4000000 in
theorem unshard_task (x : Ci) (p : Int) (s : ByteArray) (hs : (s.size : Int) ≤ 9223372036854775807) (hbad : tcode x p s ≠ 0) (A B : Option Addr) (n1 n2 cA cB : Nat) (m1 m2 : Int) (c1 c2 : Nat → Nat) (w : World) :
    Calls Tryd.prog 26 #[tvl x p s, totv (.slice A n1 cA) m1 c1, totv (.slice B n2 cB) m2 c2] w fun e w' => e = .returned (.tuple #[.slice none 0 0, .int .i64 (tcode x p s)]) ∧ Below w.heap.size w w' := by
  have hC := fun w => tcheck_any x p s hs w
  unfold tvl totv at *
  have h1 : (tcode x p s != 0) = true := by simpa using hbad
  generalize tcode x p s = z at *
  replace hC := Lib.hid hC
  go_enter Tryd.func26, Tryd.ntmps26
  go_upto_region 1 with (fail)
  refine name_wp (fun w1 => Below w.heap.size w w1 ∧ w1.heap.size = w.heap.size + 3 ∧ w1.heap[w.heap.size]? = some (.cells (tcl x p s).toArray 33 (0, 0)) ∧ w1.heap[w.heap.size + 1]? = some (.cells (tot (.slice A n1 cA) m1 c1).toArray 39 (0, 0)) ∧ w1.heap[w.heap.size + 2]? = some (.cells (tot (.slice B n2 cB) m2 c2).toArray 39 (0, 0)))
    ⟨(((Below.refl _ _).alloc (Nat.le_refl _) _).alloc (by simp) _).alloc (by simp; omega) _, by simp, alloc_keeps (alloc_keeps (alloc_at rfl)), alloc_keeps (alloc_at (by simp)), alloc_at (by simp)⟩ ?_
  rintro w1 ⟨hb, hsz, k0, k1, k2⟩
  go_wp2_with (first
    | (refine list_load_mid _ _ _ 0 _ _ rfl rfl rfl (At0.of_block k0) Tryd.underlying33 rfl (by kernel_rfl) ?_))
  refine call_then (hC.out _) ?_
  intro w3 hv
  replace hb := below_next hb (by have := hb.size; omega) hv
  replace k0 := keeps hv k0
  replace k1 := keeps hv k1
  replace k2 := keeps hv k2
  clear hv
  clear hC hsz
  clear k0 k1 k2
  go_wp2
  go_ret2
  exact ⟨rfl, hb⟩
set_option maxRecDepth 20000 in
set_option maxHeartbeats 4000000 in
theorem unshard_size (x : Ci) (p : Int) (s : ByteArray) (h : TGood x p s) (A B : Option Addr) (n1 n2 cA cB : Nat) (m : Int) (c : Nat → Nat) (h1 : n1 ≤ maxLen) (h2 : n2 ≤ maxLen) (hne : n1 ≠ x.outN ∨ n2 ≠ x.outN) (w : World) :
    Calls Tryd.prog 26 #[tvl x p s, totv (.slice A n1 cA) m c, totv (.slice B n2 cB) m c] w fun e w' => e = .returned (.tuple #[.slice none 0 0, .int .i64 9]) ∧ Below w.heap.size w w' := by
  have hC := Lib.hid (fun w => tcheck_good h w)
  have hD := Lib.hid (fun w => added_size x p s h.good A B n1 n2 cA cB m m c c h1 h2 hne w)
  have hmm : (m != m) = false := by simp
  have hsc := sameC_refl c
  obtain ⟨m1, hm1⟩ : ∃ m1, m = m1 := ⟨_, rfl⟩
  obtain ⟨m2, hm2⟩ : ∃ m2, m = m2 := ⟨_, rfl⟩
  obtain ⟨c1, hc1⟩ : ∃ c1, c = c1 := ⟨_, rfl⟩
  obtain ⟨c2, hc2⟩ : ∃ c2, c = c2 := ⟨_, rfl⟩
  subst hm1
  subst hm2
  subst hc1
  subst hc2
  unfold tvl totv at *
  clear h h1 h2 hne
  go_enter Tryd.func26, Tryd.ntmps26
  go_upto_region 1 with (fail)
  refine name_wp (fun w1 => Below w.heap.size w w1 ∧ w1.heap.size = w.heap.size + 3 ∧ w1.heap[w.heap.size]? = some (.cells (tcl x p s).toArray 33 (0, 0)) ∧ w1.heap[w.heap.size + 1]? = some (.cells (tot (.slice A n1 cA) m c).toArray 39 (0, 0)) ∧ w1.heap[w.heap.size + 2]? = some (.cells (tot (.slice B n2 cB) m c).toArray 39 (0, 0)))
    ⟨(((Below.refl _ _).alloc (Nat.le_refl _) _).alloc (by simp) _).alloc (by simp; omega) _, by simp, alloc_keeps (alloc_keeps (alloc_at rfl)), alloc_keeps (alloc_at (by simp)), alloc_at (by simp)⟩ ?_
  rintro w1 ⟨hb, hsz, k0, k1, k2⟩
  go_wp2_with (first
    | (refine list_load_mid _ _ _ 0 _ _ rfl rfl rfl (At0.of_block k0) Tryd.underlying33 rfl (by kernel_rfl) ?_))
  refine call_then (hC.out _) ?_
  intro w3 hv
  replace hb := below_next hb (by have := hb.size; omega) hv
  replace k0 := keeps hv k0
  replace k1 := keeps hv k1
  replace k2 := keeps hv k2
  clear hv
  clear hC hsz
  have q1 := At0.of_block k1 1 (.int .i64 m) rfl
  have q2 := At0.of_block k2 1 (.int .i64 m) rfl
  simp only [Nat.zero_add] at q1 q2
  have r1 := sub_range (At0.of_block k1) 2 _ (tot_chk _ _ _)
  have r2 := sub_range (At0.of_block k2) 2 _ (tot_chk _ _ _)
  go_wp2_with (first
    | (refine list_load_mid _ _ _ 2 _ _ rfl rfl rfl r1 Tryd.underlying37 rfl (by rw [arr8_len]; kernel_rfl) ?_)
    | (refine list_load_mid _ _ _ 2 _ _ rfl rfl rfl r2 Tryd.underlying37 rfl (by rw [arr8_len]; kernel_rfl) ?_)
    | (refine list_load_mid _ _ _ 0 _ _ rfl rfl rfl (At0.of_block k0) Tryd.underlying33 rfl (by kernel_rfl) ?_)
    | (refine list_load_mid _ _ _ 0 _ _ rfl rfl rfl (At0.of_block k1) Tryd.underlying39 rfl (by rw [tot_len]; kernel_rfl) ?_)
    | (refine list_load_mid _ _ _ 0 _ _ rfl rfl rfl (At0.of_block k2) Tryd.underlying39 rfl (by rw [tot_len]; kernel_rfl) ?_))
  refine call_then (hD.out _) ?_
  intro w4 hv
  replace hb := below_next hb (by have := hb.size; omega) hv
  replace k0 := keeps hv k0
  replace k1 := keeps hv k1
  replace k2 := keeps hv k2
  clear hv
  clear k0 k1 k2 q1 q2 r1 r2 hD
  go_wp2
  go_ret2
  exact ⟨rfl, hb⟩
set_option maxRecDepth 20000 in
set_option maxHeartbeats 4000000 in
theorem take_task (x : Ci) (p : Int) (s : ByteArray) (hs : (s.size : Int) ≤ 9223372036854775807) (hbad : tcode x p s ≠ 0) (b : Value) (w : World) :
    Calls Tryd.prog 30 #[tvl x p s, b] w fun e w' => e = .returned (.tuple #[.agg noTot.toArray, .int .i64 (tcode x p s)]) ∧ Below w.heap.size w w' := by
  have hC := fun w => tcheck_any x p s hs w
  unfold tvl at *
  have h1 : (tcode x p s != 0) = true := by simpa using hbad
  generalize tcode x p s = z at *
  replace hC := Lib.hid hC
  have hone := Lib.hid (one_tot (A := none) (n := 0) (cp := 0) 0 (fun _ => 0))
  go_enter Tryd.func30, Tryd.ntmps30
  go_upto_region 1 with (fail)
  refine name_wp (fun w1 => Below w.heap.size w w1 ∧ w1.heap.size = w.heap.size + 2 ∧ w1.heap[w.heap.size]? = some (.cells (tcl x p s).toArray 33 (0, 0)) ∧ w1.heap[w.heap.size + 1]? = some (.cells noTot.toArray 39 (0, 0)))
    ⟨((Below.refl _ _).alloc (Nat.le_refl _) _).alloc (by simp) _, by simp, alloc_keeps (alloc_at rfl), alloc_at (by simp)⟩ ?_
  rintro w1 ⟨hb, hsz, k0, k1⟩
  go_wp2_with (first
    | (refine list_load_mid _ _ _ 0 _ _ rfl rfl rfl (At0.of_block k0) Tryd.underlying33 rfl (by kernel_rfl) ?_))
  refine call_then (hC.out _) ?_
  intro w3 hv
  replace k1 := keeps hv k1
  replace hb := below_next hb (by omega) hv
  clear hv hC hsz k0
  go_wp2_with (first
    | (refine list_store_whole _ _ _ _ noTot noTot 39 rfl rfl rfl rfl k1 rfl (by kernel_rfl) hone.out ?_; intro w7 hbut kr))
  have hbe := hbut.below hb (by omega) hb.size
  have hlv := loadVar_whole (P := Tryd.prog) (ty := 39) _ (At0.of_block kr) Tryd.underlying39 rfl (by kernel_rfl)
  exact bodyPost_ret (v := .tuple #[.agg noTot.toArray, .int .i64 z]) (results_cell_tmpT Tryd.results30 rfl hlv rfl) rfl ⟨rfl, hbe⟩
end Go.Proofs.YtpojhomccmfffaaDoor

/-
  Totals: a law's variables as the walk goes on; two totals of nothing are the same.
-/
namespace Go.Proofs.YtpojhomccmfffaaDoor
open Go.RowKit Flow F
set_option linter.unusedVariables false
set_option linter.unusedSimpArgs false
attribute [local go_sem] eqlIn_chkC

/-- The law's five arguments, boxed one behind the other, and nothing else changed. -/
structure TE (w : World) (T S X Y I : List Value) (wr : World) : Prop where
  hb : Below w.heap.size w wr
  kt : wr.heap[w.heap.size]? = some (.cells T.toArray 33 (0, 0))
  ks : wr.heap[w.heap.size + 1]? = some (.cells S.toArray 25 (0, 0))
  kx : wr.heap[w.heap.size + 2]? = some (.cells X.toArray 39 (0, 0))
  ky : wr.heap[w.heap.size + 3]? = some (.cells Y.toArray 39 (0, 0))
  ki : wr.heap[w.heap.size + 4]? = some (.cells I.toArray 51 (0, 0))
section
variable {w w1 w2 : World} {T S X Y I : List Value}
theorem TE.up (h : TE w T S X Y I w1) (hv : Below w1.heap.size w1 w2) : TE w T S X Y I w2 :=
  ⟨below_next h.hb h.hb.size hv, keeps hv h.kt, keeps hv h.ks, keeps hv h.kx, keeps hv h.ky, keeps hv h.ki⟩
theorem TE.lt (h : TE w T S X Y I w1) : w.heap.size + 4 < w1.heap.size := lt_of_get h.ki
/-- A new variable was written whole. -/
theorem new_keeps {o o' : Obj} {k : Nat} (hk : w1.heap[k]? = some o') (hbut : But w1.heap.size (w1.alloc o) w2) : w2.heap[k]? = some o' := by
  have := lt_of_get hk
  exact (hbut.block _ (by simp; omega) (by omega)).trans (alloc_keeps hk)
theorem TE.new {o : Obj} (h : TE w T S X Y I w1) (hbut : But w1.heap.size (w1.alloc o) w2) : TE w T S X Y I w2 :=
  ⟨hbut.below (h.hb.alloc h.hb.size _) h.hb.size (h.hb.alloc h.hb.size _).size, new_keeps h.kt hbut, new_keeps h.ks hbut, new_keeps h.kx hbut, new_keeps h.ky hbut, new_keeps h.ki hbut⟩
theorem TE.farT {g : Nat} (h : TE w T S X Y I w1) (hbut : But g w1 w2) (hg : w.heap.size + 4 < g) : TE w T S X Y I w2 := by
  have := h.lt
  exact ⟨hbut.below h.hb (by omega) h.hb.size, (hbut.block _ (by omega) (by omega)).trans h.kt, (hbut.block _ (by omega) (by omega)).trans h.ks, (hbut.block _ (by omega) (by omega)).trans h.kx, (hbut.block _ (by omega) (by omega)).trans h.ky, (hbut.block _ (by omega) (by omega)).trans h.ki⟩
theorem TE.setX (h : TE w T S X Y I w1) {X' : List Value} (hbut : But (w.heap.size + 2) w1 w2) (hx : w2.heap[w.heap.size + 2]? = some (.cells X'.toArray 39 (0, 0))) : TE w T S X' Y I w2 := by
  have := h.lt
  exact ⟨hbut.below h.hb (by omega) h.hb.size, (hbut.block _ (by omega) (by omega)).trans h.kt, (hbut.block _ (by omega) (by omega)).trans h.ks, hx, (hbut.block _ (by omega) (by omega)).trans h.ky, (hbut.block _ (by omega) (by omega)).trans h.ki⟩
theorem TE.setY (h : TE w T S X Y I w1) {Y' : List Value} (hbut : But (w.heap.size + 3) w1 w2) (hy : w2.heap[w.heap.size + 3]? = some (.cells Y'.toArray 39 (0, 0))) : TE w T S X Y' I w2 := by
  have := h.lt
  exact ⟨hbut.below h.hb (by omega) h.hb.size, (hbut.block _ (by omega) (by omega)).trans h.kt, (hbut.block _ (by omega) (by omega)).trans h.ks, (hbut.block _ (by omega) (by omega)).trans h.kx, hy, (hbut.block _ (by omega) (by omega)).trans h.ki⟩
end
/-- What adding, or merging, answers: a total, an error's number. -/
def TotBy (E : Int) (w : World) (e : Ending) (w' : World) : Prop := ∃ V : List Value, e = .returned (.tuple #[.agg V.toArray, .int .i64 E]) ∧ Below w.heap.size w w' ∧ V.length = 18 ∧ ∀ u ∈ V, u.oneCell' = true
def fewE (m1 m2 : Int) : Int := if few m1 m2 = true then 0 else 18
theorem tadd_two (x : Ci) (p : Int) (s : ByteArray) (h : TGood x p s) (xs ys : List Int) (A B : Option Addr) (n cA cB : Nat) (m1 : Int) (c1 : Nat → Nat) (ns : List Nat) (hns : IdOK ns) (h1 : n = x.outN) (hx : ElemsOK xs) (hy : ElemsOK ys) (hxl : xs.length = n) (hyl : ys.length = n)
    (l1 : Lim8 c1) (w : World) (hT : Tabs w) (hA : ElemsAt w A xs) (hB : ElemsAt w B ys) :
    Calls Tryd.prog 25 #[.agg (tot (.slice A n cA) m1 c1).toArray, .agg (tcl x p s).toArray, .agg (idc ns).toArray, .slice B n cB] w (TotBy (fewE m1 1) w) := by
  cases hf : few m1 1 with
  | true =>
    refine (tadd_ok x p s h xs ys A B n n cA cB m1 c1 ns hns hf h1 rfl hx hy hxl hyl l1 (chk_lim _) w hT hA hB).mono fun e w' ⟨g, he, hb, _, _⟩ => ⟨tot (.slice (some ⟨g, 0, none⟩) n n) (m1 + 1) (xorF c1 (chk ns)), (by rw [he]; unfold fewE; rw [if_pos hf]; rfl), hb, tot_len _ _ _, one_tot _ _⟩
  | false =>
    refine (tadd_bad x p s A B n n cA cB m1 c1 ns hns 18 (fun w => merge_full x p s h A B n n cA cB m1 1 c1 (chk ns) hf w) w hT).mono fun e w' ⟨he, hb⟩ => ⟨noTot, (by rw [he]; unfold fewE; rw [if_neg (by rw [hf]; decide)]), hb, tot_len _ _ _, one_tot (A := none) (n := 0) (cp := 0) 0 (fun _ => 0)⟩
theorem merge_two (x : Ci) (p : Int) (s : ByteArray) (h : TGood x p s) (xs ys : List Int) (A B : Option Addr) (n cA cB : Nat) (m1 m2 : Int) (c1 c2 : Nat → Nat) (h1 : n = x.outN) (hx : ElemsOK xs) (hy : ElemsOK ys) (hxl : xs.length = n) (hyl : ys.length = n)
    (l1 : Lim8 c1) (l2 : Lim8 c2) (w : World) (hA : ElemsAt w A xs) (hB : ElemsAt w B ys) :
    Calls Tryd.prog 15 #[.agg (tot (.slice A n cA) m1 c1).toArray, .agg (tcl x p s).toArray, .agg (tot (.slice B n cB) m2 c2).toArray] w (TotBy (fewE m1 m2) w) := by
  cases hf : few m1 m2 with
  | true =>
    refine (merge_ok x p s h xs ys A B n n cA cB m1 m2 c1 c2 hf h1 rfl hx hy hxl hyl l1 l2 w hA hB).mono fun e w' ⟨g, he, hb, _, _⟩ => ⟨tot (.slice (some ⟨g, 0, none⟩) n n) (m1 + m2) (xorF c1 c2), (by rw [he]; unfold fewE; rw [if_pos hf]; rfl), hb, tot_len _ _ _, one_tot _ _⟩
  | false =>
    refine (merge_full x p s h A B n n cA cB m1 m2 c1 c2 hf w).mono fun e w' ⟨he, hb⟩ => ⟨noTot, (by rw [he]; unfold fewE; rw [if_neg (by rw [hf]; decide)]), hb, tot_len _ _ _, one_tot (A := none) (n := 0) (cp := 0) 0 (fun _ => 0)⟩
theorem tot_by {E : Int} {w : World} {e : Ending} {w' : World} {V : List Value} (he : e = .returned (.tuple #[.agg V.toArray, .int .i64 E])) (hb : Below w.heap.size w w') (hl : V.length = 18) (h1 : ∀ u ∈ V, u.oneCell' = true) : TotBy E w e w' := ⟨V, he, hb, hl, h1⟩
theorem tot_by9 {f : FuncId} {args : Array Value} {w : World} {E : Int} (h : Calls Tryd.prog f args w fun e w' => e = .returned (.tuple #[.agg noTot.toArray, .int .i64 E]) ∧ Below w.heap.size w w') : Calls Tryd.prog f args w (TotBy E w) :=
  h.mono fun e w' ⟨he, hb⟩ => ⟨noTot, he, hb, tot_len _ _ _, one_tot (A := none) (n := 0) (cp := 0) 0 (fun _ => 0)⟩
theorem set_chk16 (S : Value) (m : Int) (l l' : List Value) (hl : l.length = 16) (hl' : l'.length = 16) :
    List.foldl (fun (cs : Array Value) (x : Value × Nat) => cs.setIfInBounds x.2 x.1) (S :: Value.int .i64 m :: l).toArray (l'.zipIdx 2) = (S :: Value.int .i64 m :: l').toArray := by
  match l, hl with
  | [a0, a1, a2, a3, a4, a5, a6, a7, a8, a9, a10, a11, a12, a13, a14, a15], _ =>
    match l', hl' with
    | [b0, b1, b2, b3, b4, b5, b6, b7, b8, b9, b10, b11, b12, b13, b14, b15], _ => simp
theorem set_chk (S : Value) (m : Int) (c c' : Nat → Nat) : List.foldl (fun (cs : Array Value) (x : Value × Nat) => cs.setIfInBounds x.2 x.1) (tot S m c).toArray ((arr8 c' 16).zipIdx 2) = (tot S m c').toArray :=
  set_chk16 S m _ _ (arr8_len c 16) (arr8_len c' 16)
theorem list_store_midT {P : Program} {ops : Array Oper} {rest : List Oper} {op : Oper} {a : Act} {w : World} {Q : Exit → Act → World → Prop} (ty : TypeId) (x y : Operand) (b o : Nat) (cs old new : List Value) (t' : TypeId)
    (hw : Region.wanted op (yielded ops a.tmps) = true) (ho : op.op = .store ty x y) (hx : a.eval x = .pointer (some ⟨b, o, none⟩)) (hy : a.eval y = .agg cs.toArray)
    (hb : w.heap[b]? = some (.cells old.toArray t' (0, 0))) (hl : o + cs.length ≤ old.length) (hi : (P.info? ty).map (·.size) = some cs.length) (h1 : ∀ u ∈ cs, u.oneCell' = true)
    (hn : List.foldl (fun (cs : Array Value) (x : Value × Nat) => cs.setIfInBounds x.2 x.1) old.toArray (cs.zipIdx o) = new.toArray)
    (h : ∀ w', But b w w' → w'.heap[b]? = some (.cells new.toArray t' (0, 0)) → wpList P ops Q rest (a.put op.dst undef) w') : wpList P ops Q (op :: rest) a w :=
  wpList_step fun _ hK => by
    rw [if_pos hw]
    refine wp_store_mid ty x y ho b o cs.toArray hx hy (fun j hj => ?_) (by simpa using hi) (by simpa using h1) (hK _ _ (h _ ((But.refl b w).setCells cs o w) ?_))
    · have hj' : o + j < old.length := by
        have : j < cs.length := by simpa using hj
        omega
      simp [World.cell?, World.frozen?, hb, hj']
    · rw [heap_setCells _ _ _ _ _ _ _ hb, hn]
theorem tot_S (S S' : Value) (m : Int) (c : Nat → Nat) : (tot S m c).toArray.setIfInBounds 0 S' = (tot S' m c).toArray := by simp [tot]
theorem tot_M (S : Value) (m m' : Int) (c : Nat → Nat) : (tot S m c).toArray.setIfInBounds 1 (.int .i64 m') = (tot S m' c).toArray := by simp [tot]
set_option maxRecDepth 20000 in
set_option maxHeartbeats 2000000 in
theorem rsame_nil (w : World) : Calls Tryd.prog 50 #[.slice none 0 0, .slice none 0 0] w fun e w' => e = .returned (.bool true) ∧ Below w.heap.size w w' :=
  rsame_eq [] none none 0 0 (by decide) w (fun k hk => by cases hk) (fun k hk => by cases hk)
set_option maxRecDepth 20000 in
set_option maxHeartbeats 4000000 in
theorem same_nil (w : World) : Calls Tryd.prog 18 #[.agg noTot.toArray, .agg noTot.toArray] w fun e w' => e = .returned (.bool true) ∧ Below w.heap.size w w' := by
  have hR := Lib.hid (fun w => rsame_nil w)
  have hsc := sameC_refl (fun _ => 0)
  go_enter Tryd.func18, Tryd.ntmps18
  go_upto_region 1 with (fail)
  refine name_wp (fun w1 => Below w.heap.size w w1 ∧ w1.heap[w.heap.size]? = some (.cells noTot.toArray 39 (0, 0)) ∧ w1.heap[w.heap.size + 1]? = some (.cells noTot.toArray 39 (0, 0)))
    ⟨((Below.refl _ _).alloc (Nat.le_refl _) _).alloc (by simp) _, alloc_keeps (alloc_at rfl), alloc_at (by simp)⟩ ?_
  rintro w1 ⟨hb, k0, k1⟩
  have q0 := At0.of_block k0 0 (.slice none 0 0) rfl
  have q1 := At0.of_block k1 0 (.slice none 0 0) rfl
  have m0 := At0.of_block k0 1 (.int .i64 0) rfl
  have m1 := At0.of_block k1 1 (.int .i64 0) rfl
  simp only [Nat.zero_add] at q0 q1 m0 m1
  have r1 := sub_range (At0.of_block k0) 2 (arr8 (fun _ => 0) 16) (tot_chk _ _ _)
  have r2 := sub_range (At0.of_block k1) 2 (arr8 (fun _ => 0) 16) (tot_chk _ _ _)
  go_wp2_with (first
    | (refine list_load_mid _ _ _ 2 _ _ rfl rfl rfl r1 Tryd.underlying37 rfl (by rw [arr8_len]; kernel_rfl) ?_)
    | (refine list_load_mid _ _ _ 2 _ _ rfl rfl rfl r2 Tryd.underlying37 rfl (by rw [arr8_len]; kernel_rfl) ?_))
  refine call_then (hR.out _) ?_
  intro w4 hv
  replace hb := below_next hb hb.size hv
  go_wp2
  go_ret
  exact ⟨rfl, hb⟩
end Go.Proofs.YtpojhomccmfffaaDoor
