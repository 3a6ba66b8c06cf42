/-
  A client: an answer.
-/
import Derived.Test.YtehjfilnfpkjkaaUpQ
import Derived.Test.YtehjfilnfpkjkaaEqInts
namespace Go.Proofs.Ytehjfilnfpkjkaa
open Go.RowKit Flow
set_option linter.unusedVariables false
set_option linter.unusedSimpArgs false

theorem id_eq {xs ys : List Int} (hx : xs.length = 16) (hy : ys.length = 16) (w : World) : (Op.equalIn 10000 34 (.agg (xs.map (Value.int .u8)).toArray) (.agg (ys.map (Value.int .u8)).toArray)).run Try.prog w = .ok (xs == ys) w :=
  run_equalIn_ints Try.underlying34 Try.underlying5 (fun w => by kernel_rfl) 9998 xs ys hx hy w
theorem Cl.upR {q : Nat} {m0 m1 : Mg} {id : List Int} {t : Int} {ps s0 s1 : List Int} {a0 a1 : Bool} {k0 k1 f wt nx sent : Int} {w w' : World} (h : Cl q m0 m1 id t ps s0 s1 a0 a1 k0 k1 f wt nx sent w) (hv : Below w.heap.size w w') : Cl q m0 m1 id t ps s0 s1 a0 a1 k0 k1 f wt nx sent w' :=
  ⟨keeps hv h.at', h.ok0.up hv, h.ok1.up hv⟩
theorem range_up {w w' : World} {b o : Nat} {l : List Value} (h : w.rangeAt b o l) (hv : Below w.heap.size w w') : w'.rangeAt b o l := fun j v hj => (hv.cell (World.block_lt_of_cell? _ _ (h j v hj))).trans (h j v hj)
theorem cell_up {w w' : World} {p : Addr} {u : Value} (h : w.cell? p = some u) (hv : Below w.heap.size w w') : w'.cell? p = some u := (hv.cell (World.block_lt_of_cell? _ _ h)).trans h
set_option maxRecDepth 20000 in
set_option maxHeartbeats 4000000 in
theorem recv_none (q : Nat) (m0 m1 : Mg) (id : List Int) (h16 : id.length = 16) (t : Int) (ps s0 s1 : List Int) (a0 a1 : Bool) (k0 k1 f wt nx sent : Int) (fr : Int) (hfr : fr = 0 ∨ fr = 1) (cs : List Value) (b o c : Nat) (ids : List Int) (hi : ids.length = 16) (code : Int) (hk : cs[0]? = some (.int .u8 7)) (h21 : cs[21]? = some (.slice (some ⟨b, o, none⟩) 1 c)) (hsame : (ids == id) = false)
    (w : World) (hr : w.rangeAt b o (ids.map (Value.int .u8))) (hc : w.cell? ⟨b, o + 19, none⟩ = some (.int .i64 code)) (h : Cl q m0 m1 id t ps s0 s1 a0 a1 k0 k1 f wt nx sent w) :
    Calls Try.prog 10 #[.pointer (some ⟨q, 0, none⟩), .int .i64 fr, .agg cs.toArray] w fun e w' => e = .returned (.int .i64 19) ∧ Below w.heap.size w w' := by
  rcases hfr with rfl | rfl
  · skip
    have hId := Lib.hid (fun w h => id_any q m0 m1 id h16 t ps s0 s1 a0 a1 k0 k1 f wt nx sent w h)
    have heq := id_eq hi h16
    rw [hsame] at heq
    have hii : ((Try.prog).info? 34).map (·.size) = some (id.map (Value.int .u8)).length := by rw [List.length_map, h16]; kernel_rfl
    have hjj : ((Try.prog).info? 34).map (·.size) = some (ids.map (Value.int .u8)).length := by rw [List.length_map, hi]; kernel_rfl
    have hzz : (zid.map (Value.int .u8)).length = (id.map (Value.int .u8)).length := by rw [List.length_map, List.length_map, h16]; rfl
    have hone : ∀ u ∈ id.map (Value.int .u8), u.oneCell' = true := fun u hu => by obtain ⟨x, _, rfl⟩ := List.mem_map.1 hu; rfl
    obtain ⟨I, hI⟩ : ∃ I, id.map (Value.int .u8) = I := ⟨_, rfl⟩
    obtain ⟨J, hJ⟩ : ∃ J, ids.map (Value.int .u8) = J := ⟨_, rfl⟩
    rw [hI] at hId heq hii hzz hone
    rw [hJ] at heq hjj hr
    replace hone := Lib.hid hone
    replace h := Lib.hid h
    replace hr := Lib.hid hr
    replace hc := Lib.hid hc
    clear hI hJ hi h16 hsame
    go_enter Try.func10, Try.ntmps10
    go_upto_region 1 with (fail)
    refine name_wp (fun w1 => Below w.heap.size w w1 ∧ w1.heap[w.heap.size]? = some (.cells cs.toArray 27 (0, 0))) ⟨(Below.refl _ _).alloc (Nat.le_refl _) _, alloc_at rfl⟩ ?_
    rintro w1 ⟨hb, km⟩
    have c0 : w1.cell? ⟨w.heap.size, 0, none⟩ = some (.int .u8 7) := by
      have := At0.of_block km 0 _ hk
      simpa using this
    have c21 : w1.cell? ⟨w.heap.size, 21, none⟩ = some (.slice (some ⟨b, o, none⟩) 1 c) := by
      have := At0.of_block km 21 _ h21
      simpa using this
    clear km hk h21
    go_wp2_with fail
    refine call_then (hId.out _ (h.out.upR hb)) ?_
    intro w2 hv
    replace hb := below_next hb hb.size hv
    replace c0 := cell_up c0 hv
    replace c21 := cell_up c21 hv
    clear hv hId
    go_upto_region 8 with (first | (refine list_store_whole _ _ _ _ I (zid.map (Value.int .u8)) 34 rfl rfl rfl rfl (alloc_at rfl) hzz hii hone.out ?_; intro w3 hbut k3))
    have hv : Below w2.heap.size w2 w3 := hbut.below ((Below.refl _ _).alloc (Nat.le_refl _) _) (Nat.le_refl _) (by simp)
    replace hb := below_next hb hb.size hv
    replace c0 := cell_up c0 hv
    replace c21 := cell_up c21 hv
    clear hv hbut hone hzz
    have kI := At0.of_block k3
    have kJ := range_up hr.out hb
    generalize w2.heap.size = p2 at *
    refine wp_region_flow0 (by kernel_rfl) (by kernel_rfl) ?_
    intro ι _ φ hφ
    have e21 := fun i => cell_up c21 (hφ.old i)
    repeat (first
      | (refine quiet_load_mid _ _ _ 0 _ _ rfl rfl rfl (fun w9 ⟨i, e⟩ j v hj => by subst e; exact range_up kI (hφ.old i) j v hj) Try.underlying34 rfl hii ?_; simp only [Act.put, List.setIfInBounds_toArray, List.set_cons_succ, List.set_cons_zero])
      | (refine quiet_load_mid _ _ _ o _ _ rfl rfl rfl (fun w9 ⟨i, e⟩ j v hj => by subst e; exact range_up kJ (hφ.old i) j v hj) Try.underlying34 rfl hjj ?_; simp only [Act.put, List.setIfInBounds_toArray, List.set_cons_succ, List.set_cons_zero])
      | go_big_quiet_step (fail))
    refine wpQuiet_nil ?_
    intro w6 hv
    replace hb := below_next hb hb.size hv
    replace c0 := cell_up c0 hv
    replace c21 := cell_up c21 hv
    clear hv e21 kI kJ k3 hφ
    have hcl := h.out.upR hb
    have c19 := cell_up hc.out hb
    clear h hr hc
    obtain ⟨c44, c45, _⟩ := cl_cells hcl.at'
    go_wp2
    go_ret
    exact ⟨rfl, hb⟩
  · skip
    have hId := Lib.hid (fun w h => id_any q m0 m1 id h16 t ps s0 s1 a0 a1 k0 k1 f wt nx sent w h)
    have heq := id_eq hi h16
    rw [hsame] at heq
    have hii : ((Try.prog).info? 34).map (·.size) = some (id.map (Value.int .u8)).length := by rw [List.length_map, h16]; kernel_rfl
    have hjj : ((Try.prog).info? 34).map (·.size) = some (ids.map (Value.int .u8)).length := by rw [List.length_map, hi]; kernel_rfl
    have hzz : (zid.map (Value.int .u8)).length = (id.map (Value.int .u8)).length := by rw [List.length_map, List.length_map, h16]; rfl
    have hone : ∀ u ∈ id.map (Value.int .u8), u.oneCell' = true := fun u hu => by obtain ⟨x, _, rfl⟩ := List.mem_map.1 hu; rfl
    obtain ⟨I, hI⟩ : ∃ I, id.map (Value.int .u8) = I := ⟨_, rfl⟩
    obtain ⟨J, hJ⟩ : ∃ J, ids.map (Value.int .u8) = J := ⟨_, rfl⟩
    rw [hI] at hId heq hii hzz hone
    rw [hJ] at heq hjj hr
    replace hone := Lib.hid hone
    replace h := Lib.hid h
    replace hr := Lib.hid hr
    replace hc := Lib.hid hc
    clear hI hJ hi h16 hsame
    go_enter Try.func10, Try.ntmps10
    go_upto_region 1 with (fail)
    refine name_wp (fun w1 => Below w.heap.size w w1 ∧ w1.heap[w.heap.size]? = some (.cells cs.toArray 27 (0, 0))) ⟨(Below.refl _ _).alloc (Nat.le_refl _) _, alloc_at rfl⟩ ?_
    rintro w1 ⟨hb, km⟩
    have c0 : w1.cell? ⟨w.heap.size, 0, none⟩ = some (.int .u8 7) := by
      have := At0.of_block km 0 _ hk
      simpa using this
    have c21 : w1.cell? ⟨w.heap.size, 21, none⟩ = some (.slice (some ⟨b, o, none⟩) 1 c) := by
      have := At0.of_block km 21 _ h21
      simpa using this
    clear km hk h21
    go_wp2_with fail
    refine call_then (hId.out _ (h.out.upR hb)) ?_
    intro w2 hv
    replace hb := below_next hb hb.size hv
    replace c0 := cell_up c0 hv
    replace c21 := cell_up c21 hv
    clear hv hId
    go_upto_region 8 with (first | (refine list_store_whole _ _ _ _ I (zid.map (Value.int .u8)) 34 rfl rfl rfl rfl (alloc_at rfl) hzz hii hone.out ?_; intro w3 hbut k3))
    have hv : Below w2.heap.size w2 w3 := hbut.below ((Below.refl _ _).alloc (Nat.le_refl _) _) (Nat.le_refl _) (by simp)
    replace hb := below_next hb hb.size hv
    replace c0 := cell_up c0 hv
    replace c21 := cell_up c21 hv
    clear hv hbut hone hzz
    have kI := At0.of_block k3
    have kJ := range_up hr.out hb
    generalize w2.heap.size = p2 at *
    refine wp_region_flow0 (by kernel_rfl) (by kernel_rfl) ?_
    intro ι _ φ hφ
    have e21 := fun i => cell_up c21 (hφ.old i)
    repeat (first
      | (refine quiet_load_mid _ _ _ 0 _ _ rfl rfl rfl (fun w9 ⟨i, e⟩ j v hj => by subst e; exact range_up kI (hφ.old i) j v hj) Try.underlying34 rfl hii ?_; simp only [Act.put, List.setIfInBounds_toArray, List.set_cons_succ, List.set_cons_zero])
      | (refine quiet_load_mid _ _ _ o _ _ rfl rfl rfl (fun w9 ⟨i, e⟩ j v hj => by subst e; exact range_up kJ (hφ.old i) j v hj) Try.underlying34 rfl hjj ?_; simp only [Act.put, List.setIfInBounds_toArray, List.set_cons_succ, List.set_cons_zero])
      | go_big_quiet_step (fail))
    refine wpQuiet_nil ?_
    intro w6 hv
    replace hb := below_next hb hb.size hv
    replace c0 := cell_up c0 hv
    replace c21 := cell_up c21 hv
    clear hv e21 kI kJ k3 hφ
    have hcl := h.out.upR hb
    have c19 := cell_up hc.out hb
    clear h hr hc
    obtain ⟨c44, c45, _⟩ := cl_cells hcl.at'
    go_wp2
    go_ret
    exact ⟨rfl, hb⟩
set_option maxRecDepth 20000 in
set_option maxHeartbeats 4000000 in
theorem recv_again (q : Nat) (m0 m1 : Mg) (id : List Int) (h16 : id.length = 16) (t : Int) (ps s0 s1 : List Int) (a0 a1 : Bool) (k0 k1 f wt nx sent : Int) (fr : Int) (hfr : fr = 0 ∧ a0 = true ∨ fr = 1 ∧ a1 = true) (cs : List Value) (b o c : Nat) (ids : List Int) (hi : ids.length = 16) (code : Int) (hk : cs[0]? = some (.int .u8 7)) (h21 : cs[21]? = some (.slice (some ⟨b, o, none⟩) 1 c)) (hsame : (ids == id) = true)
    (w : World) (hr : w.rangeAt b o (ids.map (Value.int .u8))) (hc : w.cell? ⟨b, o + 19, none⟩ = some (.int .i64 code)) (h : Cl q m0 m1 id t ps s0 s1 a0 a1 k0 k1 f wt nx sent w) :
    Calls Try.prog 10 #[.pointer (some ⟨q, 0, none⟩), .int .i64 fr, .agg cs.toArray] w fun e w' => e = .returned (.int .i64 14) ∧ Below w.heap.size w w' := by
  rcases hfr with ⟨rfl, ha⟩ | ⟨rfl, ha⟩
  · replace ha := Lib.hid ha
    have hId := Lib.hid (fun w h => id_any q m0 m1 id h16 t ps s0 s1 a0 a1 k0 k1 f wt nx sent w h)
    have heq := id_eq hi h16
    rw [hsame] at heq
    have hii : ((Try.prog).info? 34).map (·.size) = some (id.map (Value.int .u8)).length := by rw [List.length_map, h16]; kernel_rfl
    have hjj : ((Try.prog).info? 34).map (·.size) = some (ids.map (Value.int .u8)).length := by rw [List.length_map, hi]; kernel_rfl
    have hzz : (zid.map (Value.int .u8)).length = (id.map (Value.int .u8)).length := by rw [List.length_map, List.length_map, h16]; rfl
    have hone : ∀ u ∈ id.map (Value.int .u8), u.oneCell' = true := fun u hu => by obtain ⟨x, _, rfl⟩ := List.mem_map.1 hu; rfl
    obtain ⟨I, hI⟩ : ∃ I, id.map (Value.int .u8) = I := ⟨_, rfl⟩
    obtain ⟨J, hJ⟩ : ∃ J, ids.map (Value.int .u8) = J := ⟨_, rfl⟩
    rw [hI] at hId heq hii hzz hone
    rw [hJ] at heq hjj hr
    replace hone := Lib.hid hone
    replace h := Lib.hid h
    replace hr := Lib.hid hr
    replace hc := Lib.hid hc
    clear hI hJ hi h16 hsame
    go_enter Try.func10, Try.ntmps10
    go_upto_region 1 with (fail)
    refine name_wp (fun w1 => Below w.heap.size w w1 ∧ w1.heap[w.heap.size]? = some (.cells cs.toArray 27 (0, 0))) ⟨(Below.refl _ _).alloc (Nat.le_refl _) _, alloc_at rfl⟩ ?_
    rintro w1 ⟨hb, km⟩
    have c0 : w1.cell? ⟨w.heap.size, 0, none⟩ = some (.int .u8 7) := by
      have := At0.of_block km 0 _ hk
      simpa using this
    have c21 : w1.cell? ⟨w.heap.size, 21, none⟩ = some (.slice (some ⟨b, o, none⟩) 1 c) := by
      have := At0.of_block km 21 _ h21
      simpa using this
    clear km hk h21
    go_wp2_with fail
    refine call_then (hId.out _ (h.out.upR hb)) ?_
    intro w2 hv
    replace hb := below_next hb hb.size hv
    replace c0 := cell_up c0 hv
    replace c21 := cell_up c21 hv
    clear hv hId
    go_upto_region 8 with (first | (refine list_store_whole _ _ _ _ I (zid.map (Value.int .u8)) 34 rfl rfl rfl rfl (alloc_at rfl) hzz hii hone.out ?_; intro w3 hbut k3))
    have hv : Below w2.heap.size w2 w3 := hbut.below ((Below.refl _ _).alloc (Nat.le_refl _) _) (Nat.le_refl _) (by simp)
    replace hb := below_next hb hb.size hv
    replace c0 := cell_up c0 hv
    replace c21 := cell_up c21 hv
    clear hv hbut hone hzz
    have kI := At0.of_block k3
    have kJ := range_up hr.out hb
    generalize w2.heap.size = p2 at *
    refine wp_region_flow0 (by kernel_rfl) (by kernel_rfl) ?_
    intro ι _ φ hφ
    have e21 := fun i => cell_up c21 (hφ.old i)
    repeat (first
      | (refine quiet_load_mid _ _ _ 0 _ _ rfl rfl rfl (fun w9 ⟨i, e⟩ j v hj => by subst e; exact range_up kI (hφ.old i) j v hj) Try.underlying34 rfl hii ?_; simp only [Act.put, List.setIfInBounds_toArray, List.set_cons_succ, List.set_cons_zero])
      | (refine quiet_load_mid _ _ _ o _ _ rfl rfl rfl (fun w9 ⟨i, e⟩ j v hj => by subst e; exact range_up kJ (hφ.old i) j v hj) Try.underlying34 rfl hjj ?_; simp only [Act.put, List.setIfInBounds_toArray, List.set_cons_succ, List.set_cons_zero])
      | go_big_quiet_step (fail))
    refine wpQuiet_nil ?_
    intro w6 hv
    replace hb := below_next hb hb.size hv
    replace c0 := cell_up c0 hv
    replace c21 := cell_up c21 hv
    clear hv e21 kI kJ k3 hφ
    have hcl := h.out.upR hb
    have c19 := cell_up hc.out hb
    clear h hr hc
    obtain ⟨c44, c45, _⟩ := cl_cells hcl.at'
    rw [ha.out] at c44
    go_wp2
    go_ret
    exact ⟨rfl, hb⟩
  · replace ha := Lib.hid ha
    have hId := Lib.hid (fun w h => id_any q m0 m1 id h16 t ps s0 s1 a0 a1 k0 k1 f wt nx sent w h)
    have heq := id_eq hi h16
    rw [hsame] at heq
    have hii : ((Try.prog).info? 34).map (·.size) = some (id.map (Value.int .u8)).length := by rw [List.length_map, h16]; kernel_rfl
    have hjj : ((Try.prog).info? 34).map (·.size) = some (ids.map (Value.int .u8)).length := by rw [List.length_map, hi]; kernel_rfl
    have hzz : (zid.map (Value.int .u8)).length = (id.map (Value.int .u8)).length := by rw [List.length_map, List.length_map, h16]; rfl
    have hone : ∀ u ∈ id.map (Value.int .u8), u.oneCell' = true := fun u hu => by obtain ⟨x, _, rfl⟩ := List.mem_map.1 hu; rfl
    obtain ⟨I, hI⟩ : ∃ I, id.map (Value.int .u8) = I := ⟨_, rfl⟩
    obtain ⟨J, hJ⟩ : ∃ J, ids.map (Value.int .u8) = J := ⟨_, rfl⟩
    rw [hI] at hId heq hii hzz hone
    rw [hJ] at heq hjj hr
    replace hone := Lib.hid hone
    replace h := Lib.hid h
    replace hr := Lib.hid hr
    replace hc := Lib.hid hc
    clear hI hJ hi h16 hsame
    go_enter Try.func10, Try.ntmps10
    go_upto_region 1 with (fail)
    refine name_wp (fun w1 => Below w.heap.size w w1 ∧ w1.heap[w.heap.size]? = some (.cells cs.toArray 27 (0, 0))) ⟨(Below.refl _ _).alloc (Nat.le_refl _) _, alloc_at rfl⟩ ?_
    rintro w1 ⟨hb, km⟩
    have c0 : w1.cell? ⟨w.heap.size, 0, none⟩ = some (.int .u8 7) := by
      have := At0.of_block km 0 _ hk
      simpa using this
    have c21 : w1.cell? ⟨w.heap.size, 21, none⟩ = some (.slice (some ⟨b, o, none⟩) 1 c) := by
      have := At0.of_block km 21 _ h21
      simpa using this
    clear km hk h21
    go_wp2_with fail
    refine call_then (hId.out _ (h.out.upR hb)) ?_
    intro w2 hv
    replace hb := below_next hb hb.size hv
    replace c0 := cell_up c0 hv
    replace c21 := cell_up c21 hv
    clear hv hId
    go_upto_region 8 with (first | (refine list_store_whole _ _ _ _ I (zid.map (Value.int .u8)) 34 rfl rfl rfl rfl (alloc_at rfl) hzz hii hone.out ?_; intro w3 hbut k3))
    have hv : Below w2.heap.size w2 w3 := hbut.below ((Below.refl _ _).alloc (Nat.le_refl _) _) (Nat.le_refl _) (by simp)
    replace hb := below_next hb hb.size hv
    replace c0 := cell_up c0 hv
    replace c21 := cell_up c21 hv
    clear hv hbut hone hzz
    have kI := At0.of_block k3
    have kJ := range_up hr.out hb
    generalize w2.heap.size = p2 at *
    refine wp_region_flow0 (by kernel_rfl) (by kernel_rfl) ?_
    intro ι _ φ hφ
    have e21 := fun i => cell_up c21 (hφ.old i)
    repeat (first
      | (refine quiet_load_mid _ _ _ 0 _ _ rfl rfl rfl (fun w9 ⟨i, e⟩ j v hj => by subst e; exact range_up kI (hφ.old i) j v hj) Try.underlying34 rfl hii ?_; simp only [Act.put, List.setIfInBounds_toArray, List.set_cons_succ, List.set_cons_zero])
      | (refine quiet_load_mid _ _ _ o _ _ rfl rfl rfl (fun w9 ⟨i, e⟩ j v hj => by subst e; exact range_up kJ (hφ.old i) j v hj) Try.underlying34 rfl hjj ?_; simp only [Act.put, List.setIfInBounds_toArray, List.set_cons_succ, List.set_cons_zero])
      | go_big_quiet_step (fail))
    refine wpQuiet_nil ?_
    intro w6 hv
    replace hb := below_next hb hb.size hv
    replace c0 := cell_up c0 hv
    replace c21 := cell_up c21 hv
    clear hv e21 kI kJ k3 hφ
    have hcl := h.out.upR hb
    have c19 := cell_up hc.out hb
    clear h hr hc
    obtain ⟨c44, c45, _⟩ := cl_cells hcl.at'
    rw [ha.out] at c45
    go_wp2
    go_ret
    exact ⟨rfl, hb⟩
def RecvOut (q : Nat) (m0 m1 : Mg) (id : List Int) (t : Int) (ps s0 s1 : List Int) (a0 a1 : Bool) (k0 k1 f wt nx sent : Int) (w : World) (e : Ending) (w' : World) : Prop := e = .returned (.int .i64 0) ∧ But q w w' ∧ Cl q m0 m1 id t ps s0 s1 a0 a1 k0 k1 f wt nx sent w'
theorem but_belowR {q : Nat} {w w1 w2 : World} (h : But q w w1) (hv : Below w1.heap.size w1 w2) : But q w w2 :=
  ⟨hv.os.trans h.os, hv.tape.trans h.tape, hv.output.trans h.output, Nat.le_trans h.size hv.size, fun k hk hne => (hv.block k (Nat.lt_of_lt_of_le hk h.size)).trans (h.block k hk hne)⟩
set_option maxRecDepth 20000 in
set_option maxHeartbeats 8000000 in
theorem recv_ok0 (q : Nat) (m0 m1 : Mg) (id : List Int) (h16 : id.length = 16) (t : Int) (ps s0 s1 : List Int) (a1 : Bool) (k0 k1 f wt nx sent : Int) (cs : List Value) (b o c : Nat) (ids : List Int) (hi : ids.length = 16) (code : Int) (hk : cs[0]? = some (.int .u8 7)) (h21 : cs[21]? = some (.slice (some ⟨b, o, none⟩) 1 c)) (hsame : (ids == id) = true) (hbq : b ≠ q)
    (w : World) (hr : w.rangeAt b o (ids.map (Value.int .u8))) (hc : w.cell? ⟨b, o + 19, none⟩ = some (.int .i64 code)) (h : Cl q m0 m1 id t ps s0 s1 false a1 k0 k1 f wt nx sent w) :
    Calls Try.prog 10 #[.pointer (some ⟨q, 0, none⟩), .int .i64 0, .agg cs.toArray] w (RecvOut q m0 m1 id t ps s0 s1 true a1 code k1 f wt nx sent w) := by
  obtain ⟨a0, ha0⟩ : ∃ a0, a0 = false := ⟨_, rfl⟩
  rw [← ha0] at h
  replace ha0 := Lib.hid ha0
  have hqw := lt_of_get h.at'
  unfold RecvOut
  have hId := Lib.hid (fun w h => id_any q m0 m1 id h16 t ps s0 s1 a0 a1 k0 k1 f wt nx sent w h)
  have heq := id_eq hi h16
  rw [hsame] at heq
  have hii : ((Try.prog).info? 34).map (·.size) = some (id.map (Value.int .u8)).length := by rw [List.length_map, h16]; kernel_rfl
  have hjj : ((Try.prog).info? 34).map (·.size) = some (ids.map (Value.int .u8)).length := by rw [List.length_map, hi]; kernel_rfl
  have hzz : (zid.map (Value.int .u8)).length = (id.map (Value.int .u8)).length := by rw [List.length_map, List.length_map, h16]; rfl
  have hone : ∀ u ∈ id.map (Value.int .u8), u.oneCell' = true := fun u hu => by obtain ⟨x, _, rfl⟩ := List.mem_map.1 hu; rfl
  obtain ⟨I, hI⟩ : ∃ I, id.map (Value.int .u8) = I := ⟨_, rfl⟩
  obtain ⟨J, hJ⟩ : ∃ J, ids.map (Value.int .u8) = J := ⟨_, rfl⟩
  rw [hI] at hId heq hii hzz hone
  rw [hJ] at heq hjj hr
  replace hone := Lib.hid hone
  replace h := Lib.hid h
  replace hr := Lib.hid hr
  replace hc := Lib.hid hc
  clear hI hJ hi h16 hsame
  go_enter Try.func10, Try.ntmps10
  go_upto_region 1 with (fail)
  refine name_wp (fun w1 => Below w.heap.size w w1 ∧ w1.heap[w.heap.size]? = some (.cells cs.toArray 27 (0, 0))) ⟨(Below.refl _ _).alloc (Nat.le_refl _) _, alloc_at rfl⟩ ?_
  rintro w1 ⟨hb, km⟩
  have c0 : w1.cell? ⟨w.heap.size, 0, none⟩ = some (.int .u8 7) := by
    have := At0.of_block km 0 _ hk
    simpa using this
  have c21 : w1.cell? ⟨w.heap.size, 21, none⟩ = some (.slice (some ⟨b, o, none⟩) 1 c) := by
    have := At0.of_block km 21 _ h21
    simpa using this
  clear km hk h21
  go_wp2_with fail
  refine call_then (hId.out _ (h.out.upR hb)) ?_
  intro w2 hv
  replace hb := below_next hb hb.size hv
  replace c0 := cell_up c0 hv
  replace c21 := cell_up c21 hv
  clear hv hId
  go_upto_region 8 with (first | (refine list_store_whole _ _ _ _ I (zid.map (Value.int .u8)) 34 rfl rfl rfl rfl (alloc_at rfl) hzz hii hone.out ?_; intro w3 hbut k3))
  have hv : Below w2.heap.size w2 w3 := hbut.below ((Below.refl _ _).alloc (Nat.le_refl _) _) (Nat.le_refl _) (by simp)
  replace hb := below_next hb hb.size hv
  replace c0 := cell_up c0 hv
  replace c21 := cell_up c21 hv
  clear hv hbut hone hzz
  have kI := At0.of_block k3
  have kJ := range_up hr.out hb
  generalize w2.heap.size = p2 at *
  refine wp_region_flow0 (by kernel_rfl) (by kernel_rfl) ?_
  intro ι _ φ hφ
  have e21 := fun i => cell_up c21 (hφ.old i)
  repeat (first
    | (refine quiet_load_mid _ _ _ 0 _ _ rfl rfl rfl (fun w9 ⟨i, e⟩ j v hj => by subst e; exact range_up kI (hφ.old i) j v hj) Try.underlying34 rfl hii ?_; simp only [Act.put, List.setIfInBounds_toArray, List.set_cons_succ, List.set_cons_zero])
    | (refine quiet_load_mid _ _ _ o _ _ rfl rfl rfl (fun w9 ⟨i, e⟩ j v hj => by subst e; exact range_up kJ (hφ.old i) j v hj) Try.underlying34 rfl hjj ?_; simp only [Act.put, List.setIfInBounds_toArray, List.set_cons_succ, List.set_cons_zero])
    | go_big_quiet_step (fail))
  refine wpQuiet_nil ?_
  intro w6 hv
  replace hb := below_next hb hb.size hv
  replace c0 := cell_up c0 hv
  replace c21 := cell_up c21 hv
  clear hv e21 kI kJ k3 hφ
  have hcl := h.out.upR hb
  have c19 := cell_up hc.out hb
  clear h hr hc
  obtain ⟨c44, c45, _⟩ := cl_cells hcl.at'
  rw [ha0.out] at hcl c44
  clear ha0
  have hat := Lib.hid hcl.at'
  have hk0 := Lib.hid hcl.ok0
  have hk1 := Lib.hid hcl.ok1
  have fz : ∀ k, w6.frozen? ⟨q, k, none⟩ = false := fun k => by
    have := hat.out
    simp [World.frozen?, this]
  have ff := fz 44
  replace fz := Lib.hid fz
  clear hcl
  have hqb : q ≠ w.heap.size := by have := hqw; omega
  replace hb := Lib.hid hb
  go_upto_region 13 with (fail)
  have hb1 : But q w6 (w6.setCell ⟨q, 44, none⟩ (.bool true)) := (But.refl q w6).set _
  have c21' := (World.cell?_of_block (a := ⟨w.heap.size, 21, none⟩) (hb1.block w.heap.size (World.block_lt_of_cell? _ _ c21) (fun e => hqb e.symm))).trans c21
  have c19' := (World.cell?_of_block (a := ⟨b, o + 19, none⟩) (hb1.block b (World.block_lt_of_cell? _ _ c19) hbq)).trans c19
  have k1' := store1 (o := 44) (v := .bool true) hat.out
  refine name_wp (fun wz => But q w6 wz ∧ wz.cell? ⟨w.heap.size, 21, none⟩ = some (.slice (some ⟨b, o, none⟩) 1 c) ∧ wz.cell? ⟨b, o + 19, none⟩ = some (.int .i64 code) ∧ wz.heap[q]? = some (.cells (up22 m0.val ++ up22 m1.val ++ clTail true a1 k0 k1 f wt nx sent).toArray 59 (0, 0))) ⟨hb1, c21', c19', k1'.trans rfl⟩ ?_
  clear hb1 c21' c19' k1' c21 c19 ff c44 c45 c0
  rintro wz ⟨hbz, c21, c19, kz⟩
  refine wp_region_flow1 10 (by kernel_rfl) (by kernel_rfl) (by kernel_rfl) ?_
  apply Exists.intro
  refine ⟨fun ι _ φ hφ => ?_, fun w7 hv => ?_⟩
  · have e21 := fun i => cell_up c21 (hφ.old i)
    have e19 := fun i => cell_up c19 (hφ.old i)
    simp only [List.take_succ_cons, List.take_zero]
    repeat (go_big_quiet_step (fail))
    exact wpQuiet_nil rfl
  have k7 := keeps hv kz
  have hb7 : But q w6 w7 := but_belowR hbz hv
  have f7 : w7.frozen? ⟨q, 46, none⟩ = false := by simp [World.frozen?, k7]
  have cx : w7.cell? ⟨q, 46, none⟩ = some (.int .i64 k0) := by
    have := At0.of_block k7 46 (.int .i64 k0) rfl
    simpa using this
  clear hv kz hbz c21 c19
  simp only [List.drop_succ_cons, List.drop_zero]
  replace k7 := Lib.hid k7
  go_wp2
  go_ret
  have hb8 : But q w6 (w7.setCell ⟨q, 46, none⟩ (.int .i64 code)) := hb7.set _
  refine ⟨rfl, but_after hb.out hb8, (store1 (o := 46) k7.out).trans rfl, hk0.out.but hb8 (Nat.lt_succ_self q), hk1.out.but hb8 (Nat.lt_succ_self q)⟩
set_option maxRecDepth 20000 in
set_option maxHeartbeats 8000000 in
theorem recv_ok1 (q : Nat) (m0 m1 : Mg) (id : List Int) (h16 : id.length = 16) (t : Int) (ps s0 s1 : List Int) (a0 : Bool) (k0 k1 f wt nx sent : Int) (cs : List Value) (b o c : Nat) (ids : List Int) (hi : ids.length = 16) (code : Int) (hk : cs[0]? = some (.int .u8 7)) (h21 : cs[21]? = some (.slice (some ⟨b, o, none⟩) 1 c)) (hsame : (ids == id) = true) (hbq : b ≠ q)
    (w : World) (hr : w.rangeAt b o (ids.map (Value.int .u8))) (hc : w.cell? ⟨b, o + 19, none⟩ = some (.int .i64 code)) (h : Cl q m0 m1 id t ps s0 s1 a0 false k0 k1 f wt nx sent w) :
    Calls Try.prog 10 #[.pointer (some ⟨q, 0, none⟩), .int .i64 1, .agg cs.toArray] w (RecvOut q m0 m1 id t ps s0 s1 a0 true k0 code f wt nx sent w) := by
  obtain ⟨a1, ha1⟩ : ∃ a1, a1 = false := ⟨_, rfl⟩
  rw [← ha1] at h
  replace ha1 := Lib.hid ha1
  have hqw := lt_of_get h.at'
  unfold RecvOut
  have hId := Lib.hid (fun w h => id_any q m0 m1 id h16 t ps s0 s1 a0 a1 k0 k1 f wt nx sent w h)
  have heq := id_eq hi h16
  rw [hsame] at heq
  have hii : ((Try.prog).info? 34).map (·.size) = some (id.map (Value.int .u8)).length := by rw [List.length_map, h16]; kernel_rfl
  have hjj : ((Try.prog).info? 34).map (·.size) = some (ids.map (Value.int .u8)).length := by rw [List.length_map, hi]; kernel_rfl
  have hzz : (zid.map (Value.int .u8)).length = (id.map (Value.int .u8)).length := by rw [List.length_map, List.length_map, h16]; rfl
  have hone : ∀ u ∈ id.map (Value.int .u8), u.oneCell' = true := fun u hu => by obtain ⟨x, _, rfl⟩ := List.mem_map.1 hu; rfl
  obtain ⟨I, hI⟩ : ∃ I, id.map (Value.int .u8) = I := ⟨_, rfl⟩
  obtain ⟨J, hJ⟩ : ∃ J, ids.map (Value.int .u8) = J := ⟨_, rfl⟩
  rw [hI] at hId heq hii hzz hone
  rw [hJ] at heq hjj hr
  replace hone := Lib.hid hone
  replace h := Lib.hid h
  replace hr := Lib.hid hr
  replace hc := Lib.hid hc
  clear hI hJ hi h16 hsame
  go_enter Try.func10, Try.ntmps10
  go_upto_region 1 with (fail)
  refine name_wp (fun w1 => Below w.heap.size w w1 ∧ w1.heap[w.heap.size]? = some (.cells cs.toArray 27 (0, 0))) ⟨(Below.refl _ _).alloc (Nat.le_refl _) _, alloc_at rfl⟩ ?_
  rintro w1 ⟨hb, km⟩
  have c0 : w1.cell? ⟨w.heap.size, 0, none⟩ = some (.int .u8 7) := by
    have := At0.of_block km 0 _ hk
    simpa using this
  have c21 : w1.cell? ⟨w.heap.size, 21, none⟩ = some (.slice (some ⟨b, o, none⟩) 1 c) := by
    have := At0.of_block km 21 _ h21
    simpa using this
  clear km hk h21
  go_wp2_with fail
  refine call_then (hId.out _ (h.out.upR hb)) ?_
  intro w2 hv
  replace hb := below_next hb hb.size hv
  replace c0 := cell_up c0 hv
  replace c21 := cell_up c21 hv
  clear hv hId
  go_upto_region 8 with (first | (refine list_store_whole _ _ _ _ I (zid.map (Value.int .u8)) 34 rfl rfl rfl rfl (alloc_at rfl) hzz hii hone.out ?_; intro w3 hbut k3))
  have hv : Below w2.heap.size w2 w3 := hbut.below ((Below.refl _ _).alloc (Nat.le_refl _) _) (Nat.le_refl _) (by simp)
  replace hb := below_next hb hb.size hv
  replace c0 := cell_up c0 hv
  replace c21 := cell_up c21 hv
  clear hv hbut hone hzz
  have kI := At0.of_block k3
  have kJ := range_up hr.out hb
  generalize w2.heap.size = p2 at *
  refine wp_region_flow0 (by kernel_rfl) (by kernel_rfl) ?_
  intro ι _ φ hφ
  have e21 := fun i => cell_up c21 (hφ.old i)
  repeat (first
    | (refine quiet_load_mid _ _ _ 0 _ _ rfl rfl rfl (fun w9 ⟨i, e⟩ j v hj => by subst e; exact range_up kI (hφ.old i) j v hj) Try.underlying34 rfl hii ?_; simp only [Act.put, List.setIfInBounds_toArray, List.set_cons_succ, List.set_cons_zero])
    | (refine quiet_load_mid _ _ _ o _ _ rfl rfl rfl (fun w9 ⟨i, e⟩ j v hj => by subst e; exact range_up kJ (hφ.old i) j v hj) Try.underlying34 rfl hjj ?_; simp only [Act.put, List.setIfInBounds_toArray, List.set_cons_succ, List.set_cons_zero])
    | go_big_quiet_step (fail))
  refine wpQuiet_nil ?_
  intro w6 hv
  replace hb := below_next hb hb.size hv
  replace c0 := cell_up c0 hv
  replace c21 := cell_up c21 hv
  clear hv e21 kI kJ k3 hφ
  have hcl := h.out.upR hb
  have c19 := cell_up hc.out hb
  clear h hr hc
  obtain ⟨c44, c45, _⟩ := cl_cells hcl.at'
  rw [ha1.out] at hcl c45
  clear ha1
  have hat := Lib.hid hcl.at'
  have hk0 := Lib.hid hcl.ok0
  have hk1 := Lib.hid hcl.ok1
  have fz : ∀ k, w6.frozen? ⟨q, k, none⟩ = false := fun k => by
    have := hat.out
    simp [World.frozen?, this]
  have ff := fz 45
  replace fz := Lib.hid fz
  clear hcl
  have hqb : q ≠ w.heap.size := by have := hqw; omega
  replace hb := Lib.hid hb
  go_upto_region 13 with (fail)
  have hb1 : But q w6 (w6.setCell ⟨q, 45, none⟩ (.bool true)) := (But.refl q w6).set _
  have c21' := (World.cell?_of_block (a := ⟨w.heap.size, 21, none⟩) (hb1.block w.heap.size (World.block_lt_of_cell? _ _ c21) (fun e => hqb e.symm))).trans c21
  have c19' := (World.cell?_of_block (a := ⟨b, o + 19, none⟩) (hb1.block b (World.block_lt_of_cell? _ _ c19) hbq)).trans c19
  have k1' := store1 (o := 45) (v := .bool true) hat.out
  refine name_wp (fun wz => But q w6 wz ∧ wz.cell? ⟨w.heap.size, 21, none⟩ = some (.slice (some ⟨b, o, none⟩) 1 c) ∧ wz.cell? ⟨b, o + 19, none⟩ = some (.int .i64 code) ∧ wz.heap[q]? = some (.cells (up22 m0.val ++ up22 m1.val ++ clTail a0 true k0 k1 f wt nx sent).toArray 59 (0, 0))) ⟨hb1, c21', c19', k1'.trans rfl⟩ ?_
  clear hb1 c21' c19' k1' c21 c19 ff c44 c45 c0
  rintro wz ⟨hbz, c21, c19, kz⟩
  refine wp_region_flow1 10 (by kernel_rfl) (by kernel_rfl) (by kernel_rfl) ?_
  apply Exists.intro
  refine ⟨fun ι _ φ hφ => ?_, fun w7 hv => ?_⟩
  · have e21 := fun i => cell_up c21 (hφ.old i)
    have e19 := fun i => cell_up c19 (hφ.old i)
    simp only [List.take_succ_cons, List.take_zero]
    repeat (go_big_quiet_step (fail))
    exact wpQuiet_nil rfl
  have k7 := keeps hv kz
  have hb7 : But q w6 w7 := but_belowR hbz hv
  have f7 : w7.frozen? ⟨q, 47, none⟩ = false := by simp [World.frozen?, k7]
  have cx : w7.cell? ⟨q, 47, none⟩ = some (.int .i64 k1) := by
    have := At0.of_block k7 47 (.int .i64 k1) rfl
    simpa using this
  clear hv kz hbz c21 c19
  simp only [List.drop_succ_cons, List.drop_zero]
  replace k7 := Lib.hid k7
  go_wp2
  go_ret
  have hb8 : But q w6 (w7.setCell ⟨q, 47, none⟩ (.int .i64 code)) := hb7.set _
  refine ⟨rfl, but_after hb.out hb8, (store1 (o := 47) k7.out).trans rfl, hk0.out.but hb8 (Nat.lt_succ_self q), hk1.out.but hb8 (Nat.lt_succ_self q)⟩
end Go.Proofs.Ytehjfilnfpkjkaa
