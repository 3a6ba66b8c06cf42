import Derived.Test.YtpojhomccmfffaaDoorED
/-
  Totals of many reports: the law's adding one by one.
-/
namespace Go.Proofs.YtpojhomccmfffaaDoor
open Go.RowKit Flow F
set_option linter.unusedVariables false
set_option linter.unusedSimpArgs false

/-- A report: its id, its list. -/
structure Rp where
  ns : List Nat
  A : Option Addr
  n : Nat
  c : Nat
def Rp.cells (r : Rp) : List Value := idc r.ns ++ [.slice r.A r.n r.c]
def nulRp : List Value := [.int .u8 0, .int .u8 0, .int .u8 0, .int .u8 0, .int .u8 0, .int .u8 0, .int .u8 0, .int .u8 0, .int .u8 0, .int .u8 0, .int .u8 0, .int .u8 0, .int .u8 0, .int .u8 0, .int .u8 0, .int .u8 0, .slice none 0 0]
theorem Rp.len {r : Rp} (h : IdOK r.ns) : r.cells.length = 17 := by simp [Rp.cells, idc_len h]
theorem Rp.one (r : Rp) : ∀ u ∈ r.cells, u.oneCell' = true := fun u hu => by
  unfold Rp.cells at hu
  rcases List.mem_append.1 hu with h | h
  · exact one_idc _ u h
  · obtain rfl := List.mem_singleton.1 h; rfl
theorem Rp.idr {w : World} {g : Nat} {r : Rp} {t : TypeId} (h : w.heap[g]? = some (.cells r.cells.toArray t (0, 0))) : w.rangeAt g 0 (idc r.ns) := fun j v hj => At0.of_block h j v (by
  unfold Rp.cells
  rw [List.getElem?_append_left (List.getElem?_eq_some_iff.1 hj).1]
  exact hj)
theorem Rp.out {w : World} {g : Nat} {r : Rp} {t : TypeId} (hi : IdOK r.ns) (h : w.heap[g]? = some (.cells r.cells.toArray t (0, 0))) : w.cell? ⟨g, 16, none⟩ = some (.slice r.A r.n r.c) := by
  have := At0.of_block h 16 (.slice r.A r.n r.c) (by
    unfold Rp.cells
    rw [List.getElem?_append_right (by rw [idc_len hi]; exact Nat.le_refl _), idc_len hi]
    rfl)
  simpa using this
def RpsAt (w : World) (A : Option Addr) (n : Nat) (rs : Nat → Rp) : Prop := ∀ k, k < n → ∃ b o, A = some ⟨b, o, none⟩ ∧ w.rangeAt b (o + k * 17) (rs k).cells
theorem RpsAt.up {w w' : World} {A : Option Addr} {n : Nat} {rs : Nat → Rp} (h : RpsAt w A n rs) (hb : Below w.heap.size w w') : RpsAt w' A n rs := fun k hk => by
  obtain ⟨b, o, e, hr⟩ := h k hk
  exact ⟨b, o, e, fun j v hj => (hb.cell (World.block_lt_of_cell? _ _ (hr j v hj))).trans (hr j v hj)⟩
/-- Lists, in a list. -/
def OutsAt (w : World) (B : Option Addr) (n N : Nat) (gs : Nat → Nat) (ys : Nat → List Int) : Prop := ∀ k, k < n → ∃ b o, B = some ⟨b, o, none⟩ ∧ w.cell? ⟨b, o + k, none⟩ = some (.slice (some ⟨gs k, 0, none⟩) N N) ∧ Row w (gs k) (ys k)
theorem OutsAt.up {w w' : World} {B : Option Addr} {n N : Nat} {gs : Nat → Nat} {ys : Nat → List Int} (h : OutsAt w B n N gs ys) (hb : Below w.heap.size w w') : OutsAt w' B n N gs ys := fun k hk => by
  obtain ⟨b, o, e, hr, hw⟩ := h k hk
  exact ⟨b, o, e, (hb.cell (World.block_lt_of_cell? _ _ hr)).trans hr, hw.up hb⟩
/-- The sum of the first so many. -/
def sumK (f : Int) (N : Nat) (ys : Nat → List Int) : Nat → List Int
  | 0 => List.replicate N 0
  | k + 1 => List.zipWith (add f) (sumK f N ys k) (ys k)
def chkK (ns : Nat → List Nat) : Nat → Nat → Nat
  | 0 => fun _ => 0
  | k + 1 => xorF (chkK ns k) (chk (ns k))
theorem chkK_lim (ns : Nat → List Nat) : ∀ k, Lim8 (chkK ns k)
  | 0 => zero_lim
  | k + 1 => xorF_lim (chkK_lim ns k) (chk_lim _)
theorem sumK_len {f : Int} {N : Nat} {ys : Nat → List Int} (h : ∀ k, (ys k).length = N) : ∀ k, (sumK f N ys k).length = N
  | 0 => by simp [sumK]
  | k + 1 => by simp [sumK, sumK_len h k, h k]
theorem add_bigT {f : Int} (a b : Int) : 0 ≤ add f a b ∧ add f a b < 340282366920938463463374607431768211456 := by
  have h := add_bound f a b
  have hM : M f ≤ 340282366920938463463374607431768211456 := by unfold M; split <;> omega
  omega
theorem sumK_ok {f : Int} {N : Nat} {ys : Nat → List Int} (h : ∀ k, ElemsOK (ys k)) : ∀ k, ElemsOK (sumK f N ys k)
  | 0 => fun x hx => by
    obtain rfl := List.eq_of_mem_replicate hx
    omega
  | k + 1 => ElemsOK.zip (fun a b _ _ _ _ => add_bigT a b) (sumK_ok h k) (h k)
theorem few_lt {k : Nat} (h : k < 256) : few (k : Int) 1 = true := by
  unfold few
  have h1 : ¬ ((k : Int) < 0) := by omega
  have h2 : ¬ ((k : Int) > 256) := by omega
  have h3 : ¬ (1 > 256 - (k : Int)) := by omega
  simp [h1, h2, h3]
end Go.Proofs.YtpojhomccmfffaaDoor

/-
  Totals of many reports: the law's adding one by one, walked.
-/
namespace Go.Proofs.YtpojhomccmfffaaDoor
open Go.RowKit Flow F
set_option linter.unusedVariables false
set_option linter.unusedSimpArgs false

theorem leftT {n L : Nat} (h : n < L) : L - (intOf (.int .i64 ((n : Int) + 1))).toNat < L - (intOf (.int .i64 (n : Int))).toNat := by
  show L - ((n : Int) + 1).toNat < L - ((n : Int)).toNat
  omega
set_option maxRecDepth 20000 in
set_option maxHeartbeats 8000000 in
theorem ladd_ok (x : Ci) (p : Int) (s : ByteArray) (h : TGood x p s) (N : Nat) (hN : x.outN = N) (n : Nat) (hn : n ≤ 20) (A B : Option Addr) (cA cB : Nat) (rs : Nat → Rp) (hid : ∀ k, IdOK (rs k).ns) (gs : Nat → Nat) (ys : Nat → List Int) (hyl : ∀ k, (ys k).length = N) (hyo : ∀ k, ElemsOK (ys k))
    (w : World) (hT : Tabs w) (hR : RpsAt w A n rs) (hO : OutsAt w B n N gs ys) :
    Calls Tryd.prog 14 #[.agg (tcl x p s).toArray, .slice A n cA, .slice B n cB] w fun e w' => ∃ g, e = .returned (.tuple #[.agg (tot (.slice (some ⟨g, 0, none⟩) N N) (n : Int) (chkK (fun k => (rs k).ns) n)).toArray, .int .i64 0]) ∧ Below w.heap.size w w' ∧ w.heap.size ≤ g ∧ Row w' g (sumK x.f N ys n) := by
  have hN4 : N ≤ 4096 := by rw [← hN]; exact out_le4 h.good
  have hNw := Lib.hid (fun w => (tnew_ok x p s h N hN hN4 w : Calls Tryd.prog 19 #[.agg (tcl x p s).toArray] w _))
  have hA := Lib.hid (fun (k : Nat) (hk : k < 20) (g : Nat) (w : World) hT (hr : Row w g (sumK x.f N ys k)) (hy : Row w (gs k) (ys k)) => (tadd_ok x p s h (sumK x.f N ys k) (ys k) (some ⟨g, 0, none⟩) (some ⟨gs k, 0, none⟩) N N N N (k : Int) (chkK (fun k => (rs k).ns) k) (rs k).ns (hid k) (few_lt (by omega)) hN.symm rfl (sumK_ok hyo k) (hyo k) (sumK_len hyl k) (hyl k) (chkK_lim _ k) (chk_lim _) w hT hr.elems hy.elems : Calls Tryd.prog 25 #[.agg (tot (.slice (some ⟨g, 0, none⟩) N N) (k : Int) (chkK (fun k => (rs k).ns) k)).toArray, .agg (tcl x p s).toArray, .agg (idc (rs k).ns).toArray, .slice (some ⟨gs k, 0, none⟩) N N] w _))
  unfold totv at hA hNw
  replace hT := Lib.hid hT
  replace hR := Lib.hid hR
  replace hO := Lib.hid hO
  replace hid := Lib.hid hid
  clear h hN hyl hyo
  go_enter Tryd.func14, Tryd.ntmps14
  go_upto_region 1 with (fail)
  refine name_wp (fun w1 => Below w.heap.size w w1 ∧ w1.heap[w.heap.size]? = some (.cells (tcl x p s).toArray 33 (0, 0)) ∧ w1.heap[w.heap.size + 1]? = some (.cells noTot.toArray 39 (0, 0)))
    ⟨((Below.refl _ _).alloc (Nat.le_refl _) _).alloc (by simp) _, alloc_keeps (alloc_at rfl), alloc_at (by simp)⟩ ?_
  rintro w1 ⟨hb, kt, kr⟩
  go_wp2_with (first
    | (refine list_load_mid _ _ _ 0 _ _ rfl rfl rfl (At0.of_block kt) Tryd.underlying33 rfl (by kernel_rfl) ?_))
  refine (hNw.out _).mono ?_
  rintro e w2 ⟨g0, rfl, hv, hg0, hr0⟩
  replace kt := keeps hv kt
  have hgr := Nat.lt_of_lt_of_le (lt_of_get kr) hg0
  replace kr := keeps hv kr
  replace hb := below_next hb hb.size hv
  clear hv hNw hg0
  have hone := Lib.hid (one_tot (A := some ⟨g0, 0, none⟩) (n := N) (cp := N) 0 (fun _ => 0))
  go_upto_region 2 with (first
    | (refine list_store_whole _ _ _ _ (tot (.slice (some ⟨g0, 0, none⟩) N N) 0 (fun _ => 0)) noTot 39 rfl rfl rfl rfl (alloc_at rfl) rfl (by kernel_rfl) hone.out ?_; intro w3 hbut kx))
  have hbA := hb.alloc hb.size (.cells noTot.toArray 39 (0, 0))
  replace kt := new_keeps kt hbut
  have hro := lt_of_get kr
  replace kr := new_keeps kr hbut
  have hgo := lt_of_get hr0
  replace hr0 : Row w3 g0 (List.replicate N 0) := new_keeps hr0 hbut
  replace hb := hbut.below hbA hb.size hbA.size
  clear hbut hbA hone
  generalize w2.heap.size = o at *
  go_wp2
  go_loopw [16] (fun i wr => ∃ (k g : Nat), k ≤ n ∧ i = .int .i64 (k : Int) ∧ Below w.heap.size w wr ∧ wr.heap[w.heap.size]? = some (.cells (tcl x p s).toArray 33 (0, 0)) ∧ wr.heap[w.heap.size + 1]? = some (.cells noTot.toArray 39 (0, 0)) ∧ wr.heap[o]? = some (.cells (tot (.slice (some ⟨g, 0, none⟩) N N) (k : Int) (chkK (fun k => (rs k).ns) k)).toArray 39 (0, 0)) ∧ Row wr g (sumK x.f N ys k) ∧ w.heap.size + 1 < g ∧ g ≠ o) (fun i _ => n - (intOf i).toNat)
  case atStart => exact ⟨0, g0, by omega, rfl, hb, kt, kr, kx, hr0, by omega, by omega⟩
  case round =>
    clear hb kt kr kx hr0 hgr hgo
    obtain ⟨k, g, hk, rfl, hb, kt, kr, kx, hrow, hgw, hgo⟩ := hrel
    by_cases hlt : k < n
    · have i0 : (0 : Int) ≤ (k : Int) := by omega
      have i1 : (k : Int) < (n : Int) := by omega
      obtain ⟨ba, oa, rfl, hrep⟩ := (hR.out.up hb) k hlt
      obtain ⟨bb, ob, rfl, hob, hyk⟩ := (hO.out.up hb) k hlt
      have h17 := Rp.len (hid.out k)
      have hA1 := Lib.hid (fun w => hA.out k (by omega) g w)
      have hone := Lib.hid ((rs k).one)
      have hidl := Lib.hid (idc_len (hid.out k))
      have hidk := hid.out k
      generalize hrr : rs k = r at *
      generalize hyy : ys k = y at *
      generalize hgg : gs k = gy at *
      go_upto_region 5 with (first
        | (refine list_load_mid _ _ _ (oa + k * 17) _ _ rfl rfl rfl hrep Tryd.underlying56 rfl (by rw [h17]; kernel_rfl) ?_)
        | (refine list_store_whole _ _ _ _ r.cells nulRp 56 rfl rfl rfl rfl (alloc_at rfl) (by rw [h17]; rfl) (by rw [h17]; kernel_rfl) hone.out ?_; intro w4 hbut kp))
      have hbA := hb.alloc hb.size (.cells nulRp.toArray 56 (0, 0))
      have hok := lt_of_get kx
      replace kt := new_keeps kt hbut
      replace kr := new_keeps kr hbut
      replace kx := new_keeps kx hbut
      replace hrow : Row w4 g (sumK x.f N ys k) := new_keeps hrow hbut
      replace hb := hbut.below hbA hb.size hbA.size
      clear hbut hbA hob hyk hrep
      generalize wr.heap.size = rp at *
      rw [put_noneT]
      go_wp2
      refine segS_start (gb := fun k => k ≠ o) 14 (by kernel_rfl) (by decide) ?_
      intro v0 hv
      replace hb := below_next hb hb.size hv
      replace kt := keeps hv kt
      replace kr := keeps hv kr
      replace kx := keeps hv kx
      try (replace kp := keeps hv kp)
      try (replace hrow := hrow.up hv)
      try (replace hr2 := hr2.up hv)
      clear hv
      obtain ⟨bb', ob', eb, hob, hyk⟩ := (hO.out.up hb) k hlt
      cases eb
      obtain ⟨bb', ob', eb, hob0, -⟩ := hO.out k hlt
      cases eb
      have hbo : bb ≠ o := by
        have h1 := World.block_lt_of_cell? _ _ hob0
        have h2 : bb < w.heap.size := h1
        omega
      clear hob0
      have hwo : w.heap.size ≠ o := by omega
      have hrpo : rp ≠ o := by omega
      rw [hgg] at hob hyk
      rw [hyy] at hyk
      refine segS_batch 7 [1, 2, 3, 4, 5, 6, 7] (by kernel_rfl) rfl (by kernel_rfl) (by kernel_rfl) (by kernel_rfl) ?_
      apply Exists.intro
      refine ⟨fun ι _ φ hφ => ?_, fun v1 hv => ?_⟩
      · have hobi := fun i => (World.cell?_of_block ((hφ.old i).block _ (World.block_lt_of_cell? _ _ hob) hbo)).trans hob
        repeat (refine pick_step rfl ?_; first
          | (refine quiet_load_mid _ _ _ 0 _ _ rfl rfl rfl (mid_familyT hφ (At0.of_block kt) hwo) Tryd.underlying33 rfl (by kernel_rfl) ?_; simp only [Act.put, List.setIfInBounds_toArray, List.set_cons_succ, List.set_cons_zero])
          | (refine quiet_load_mid _ _ _ 0 _ _ rfl rfl rfl (mid_familyT hφ (Rp.idr kp) hrpo) Tryd.underlying51 rfl (by rw [hidl.out]; kernel_rfl) ?_; simp only [Act.put, List.setIfInBounds_toArray, List.set_cons_succ, List.set_cons_zero])
          | go_big_quiet_step (fail))
        exact pick_end
      replace hyk := hyk.up hv
      replace hb := below_next hb hb.size hv
      replace kt := keeps hv kt
      replace kr := keeps hv kr
      replace kx := keeps hv kx
      try (replace kp := keeps hv kp)
      try (replace hrow := hrow.up hv)
      try (replace hr2 := hr2.up hv)
      clear hv
      clear hob
      refine segS_one 0 _ (by decide) rfl (by kernel_rfl) ?_
      intro v2 K2 hv hK
      replace hyk := hyk.up hv
      replace hb := below_next hb hb.size hv
      replace kt := keeps hv kt
      replace kr := keeps hv kr
      replace kx := keeps hv kx
      try (replace kp := keeps hv kp)
      try (replace hrow := hrow.up hv)
      try (replace hr2 := hr2.up hv)
      clear hv
      rw [if_pos (by kernel_rfl)]
      refine wp_load_mid 39 _ rfl o 0 rfl _ _ (At0.of_block kx) Tryd.underlying39 rfl (by rw [tot_len]; kernel_rfl) (hK _ _ (HeldS.refl _ _) ?_)
      clear hK K2
      refine segS_one 8 _ (by decide) rfl (by kernel_rfl) ?_
      intro v2 K2 hv hK
      replace hyk := hyk.up hv
      replace hb := below_next hb hb.size hv
      replace kt := keeps hv kt
      replace kr := keeps hv kr
      replace kx := keeps hv kx
      try (replace kp := keeps hv kp)
      try (replace hrow := hrow.up hv)
      try (replace hr2 := hr2.up hv)
      clear hv
      have hA2 := Lib.hid (hA1.out v2 (hT.out.up hb) hrow hyk)
      replace hK := Lib.hid hK
      go_simp
      refine hA2.out.mono ?_
      rintro e v3 ⟨g2, rfl, hv, hg2, hr2⟩
      refine hK.out _ _ (HeldS.of_below hv) ?_
      have hgr2 := Nat.lt_of_lt_of_le (lt_of_get kr) hg2
      have hgo2 := Nat.lt_of_lt_of_le (lt_of_get kx) hg2
      clear hK K2 hA2 hyk hg2
      replace hb := below_next hb hb.size hv
      replace kt := keeps hv kt
      replace kr := keeps hv kr
      replace kx := keeps hv kx
      try (replace kp := keeps hv kp)
      try (replace hrow := hrow.up hv)
      try (replace hr2 := hr2.up hv)
      clear hv
      clear hrow
      refine segS_batch 2 [9, 10, 11] (by kernel_rfl) rfl (by kernel_rfl) (by kernel_rfl) (by kernel_rfl) ?_
      apply Exists.intro
      refine ⟨fun ι _ φ hφ => ?_, fun v1 hv => ?_⟩
      · repeat (refine pick_step rfl ?_; go_big_quiet_step (fail))
        exact pick_end
      replace hb := below_next hb hb.size hv
      replace kt := keeps hv kt
      replace kr := keeps hv kr
      replace kx := keeps hv kx
      try (replace kp := keeps hv kp)
      try (replace hrow := hrow.up hv)
      try (replace hr2 := hr2.up hv)
      clear hv
      refine segS_one 12 _ (by decide) rfl (by kernel_rfl) ?_
      intro vc K2 hv hK
      replace hb := below_next hb hb.size hv
      replace kt := keeps hv kt
      replace kr := keeps hv kr
      replace kx := keeps hv kx
      try (replace kp := keeps hv kp)
      try (replace hrow := hrow.up hv)
      try (replace hr2 := hr2.up hv)
      clear hv
      replace hK := Lib.hid hK
      obtain ⟨I, hI2⟩ : ∃ I, tot (.slice (some ⟨g2, 0, none⟩) N N) ((k : Int) + 1) (xorF (chkK (fun k => (rs k).ns) k) (chk r.ns)) = I := ⟨_, rfl⟩
      have hIl : I.length = 18 := by rw [← hI2]; exact tot_len _ _ _
      have hI1 : ∀ u ∈ I, u.oneCell' = true := by rw [← hI2]; exact one_tot _ _
      have hbut : But o vc (vc.setCells o 0 I) := (But.refl o vc).setCells I 0 vc
      have k8 : (vc.setCells o 0 I).heap[o]? = some (.cells I.toArray 39 (0, 0)) := by
        rw [heap_setCells _ _ _ _ _ _ _ kx, build_one _ _ (by rw [hIl]; simp [tot_len])]
      rw [if_pos (by kernel_rfl)]
      refine wp_store_mid 39 _ _ rfl o 0 I.toArray rfl (by rw [← hI2]; rfl) (fun j hj => ?_) (by simp only [List.size_toArray, hIl]; exact info_total) (by simpa using hI1) (hK.out _ _ ⟨hbut.os, hbut.tape, hbut.output, hbut.size, fun b hb hne => hbut.block b hb hne⟩ ?_)
      · have hj' : j < 18 := by rw [← hIl]; simpa using hj
        have hj2 : j < (tot (.slice (some ⟨g, 0, none⟩) N N) (k : Int) (chkK (fun k => (rs k).ns) k)).length := by rw [tot_len]; exact hj'
        simp [World.cell?, World.frozen?, kx, hj2]
      replace hb := hbut.below hb (by omega) hb.size
      replace kt := (hbut.block _ (lt_of_get kt) hwo).trans kt
      replace kr := (hbut.block _ (lt_of_get kr) (by omega)).trans kr
      replace hr2 : Row (vc.setCells o 0 I) g2 _ := (hbut.block _ (lt_of_get hr2) (by omega)).trans hr2
      clear hK K2 hbut kx kp
      subst hI2
      have kx := k8
      clear k8
      generalize vc.setCells o 0 (tot (.slice (some ⟨g2, 0, none⟩) N N) ((k : Int) + 1) (xorF (chkK (fun k => (rs k).ns) k) (chk r.ns))) = vd at *
      rw [put_noneT]
      refine segS_batch 0 [13] (by kernel_rfl) rfl (by kernel_rfl) (by kernel_rfl) (by kernel_rfl) ?_
      apply Exists.intro
      refine ⟨fun ι _ φ hφ => ?_, fun v1 hv => ?_⟩
      · repeat (refine pick_step rfl ?_; go_big_quiet_step (fail))
        exact pick_end
      replace hb := below_next hb hb.size hv
      replace kt := keeps hv kt
      replace kr := keeps hv kr
      replace kx := keeps hv kx
      try (replace kp := keeps hv kp)
      try (replace hrow := hrow.up hv)
      try (replace hr2 := hr2.up hv)
      clear hv
      refine segS_done rfl (by kernel_rfl) ?_
      intro v5 hv
      replace hb := below_next hb hb.size hv
      replace kt := keeps hv kt
      replace kr := keeps hv kr
      replace kx := keeps hv kx
      try (replace kp := keeps hv kp)
      try (replace hrow := hrow.up hv)
      try (replace hr2 := hr2.up hv)
      clear hv
      go_wp2
      refine ⟨⟨k + 1, g2, by omega, by go_num, hb, kt, kr, ?_, ?_, by omega, by omega⟩, leftT hlt⟩
      · rw [kx, ← hrr]
        rfl
      · rw [← hyy] at hr2
        exact hr2
    · obtain rfl : k = n := by omega
      have honeT := Lib.hid (one_tot (A := some ⟨g, 0, none⟩) (n := N) (cp := N) (k : Int) (chkK (fun k => (rs k).ns) k))
      have hlx := lt_of_get kx
      go_wp2_with (first
        | (refine list_load_mid _ _ _ 0 _ _ rfl rfl rfl (At0.of_block kx) Tryd.underlying39 rfl (by rw [tot_len]; kernel_rfl) ?_)
        | (refine list_store_whole _ _ _ _ (tot (.slice (some ⟨g, 0, none⟩) N N) (k : Int) (chkK (fun k => (rs k).ns) k)) noTot 39 rfl rfl rfl rfl kr (by rw [tot_len]; rfl) (by rw [tot_len]; kernel_rfl) honeT.out ?_; intro wm hbut kz))
      have hbe := hbut.below hb (by omega) hb.size
      have hlv := loadVar_whole (P := Tryd.prog) (ty := 39) _ (At0.of_block kz) Tryd.underlying39 rfl (by rw [tot_len]; kernel_rfl)
      exact bodyPost_ret (v := .tuple #[.agg (tot (.slice (some ⟨g, 0, none⟩) N N) (k : Int) (chkK (fun k => (rs k).ns) k)).toArray, .int .i64 0]) (results_cell_tmpT Tryd.results14 rfl hlv rfl) rfl ⟨g, rfl, hbe, by omega, (hbut.block _ (lt_of_get hrow) (by omega)).trans hrow⟩
end Go.Proofs.YtpojhomccmfffaaDoor
