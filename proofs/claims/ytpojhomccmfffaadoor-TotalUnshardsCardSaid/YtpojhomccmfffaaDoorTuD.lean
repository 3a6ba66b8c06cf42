/-
  TotalUnshards: its walk.
-/
import Derived.Test.YtpojhomccmfffaaDoorTuC
namespace Go.Proofs.YtpojhomccmfffaaDoor
open Go.RowKit Flow F
set_option linter.unusedVariables false
set_option linter.unusedSimpArgs false
attribute [local go_sem] eql_elem eqlIn_chkC

def nulTaskU : List Value := [.int .u8 0, .int .u8 0, .int .i64 0, .int .i64 0, .int .i64 0, .int .i64 0, .int .i64 0, .string ⟨#[]⟩]
theorem ccl_one (x : Ci) : ∀ u ∈ ccl x, u.oneCell' = true := fun u hu => by
  simp only [ccl, List.mem_cons, List.not_mem_nil, or_false] at hu
  rcases hu with rfl | rfl | rfl | rfl | rfl | rfl <;> rfl
theorem ne_typeU {w : World} {a b : Nat} {x y : Array Value} {t u : TypeId} {r r' : Nat × Nat} (h1 : w.heap[a]? = some (.cells x t r)) (h2 : w.heap[b]? = some (.cells y u r')) (h : t ≠ u) : a ≠ b := fun e => by
  subst e
  rw [h1] at h2
  exact h (by
    have := Obj.cells.inj (Option.some.inj h2)
    exact this.2.1)
theorem RpOK.upU {w w' : World} {r : Rp} {y : List Int} (h : RpOK w r y) (hb : Below w.heap.size w w') : RpOK w' r y := ⟨h.id, h.len, h.le, h.at'.up hb, h.ok⟩
/-- What stands while both shares are added. -/
structure Un (W9 : World) (q14 q15 gw N : Nat) (m1 m2 : Int) (c1 c2 : Nat → Nat) (Sa Sb Wl : List Int) (ga gb : Nat) (w : World) : Prop where
  b9 : Below W9.heap.size W9 w
  ka : w.heap[q14]? = some (.cells (tot (.slice (some ⟨ga, 0, none⟩) N N) m1 c1).toArray 39 (0, 0))
  kb : w.heap[q15]? = some (.cells (tot (.slice (some ⟨gb, 0, none⟩) N N) m2 c2).toArray 39 (0, 0))
  ra : Row w ga Sa
  rb : Row w gb Sb
  rw' : WRow w gw Wl
section
variable {W9 : World} {q14 q15 gw N : Nat} {m1 m2 : Int} {c1 c2 : Nat → Nat} {Sa Sb Wl : List Int} {ga gb : Nat} {w w' : World}
theorem Un.up (h : Un W9 q14 q15 gw N m1 m2 c1 c2 Sa Sb Wl ga gb w) (hv : Below w.heap.size w w') : Un W9 q14 q15 gw N m1 m2 c1 c2 Sa Sb Wl ga gb w' :=
  ⟨below_next h.b9 h.b9.size hv, keeps hv h.ka, keeps hv h.kb, h.ra.up hv, h.rb.up hv, h.rw'.up hv⟩
theorem Un.setA {m : Int} {c : Nat → Nat} {S : List Int} {g : Nat} (h : Un W9 q14 q15 gw N m1 m2 c1 c2 Sa Sb Wl ga gb w) (hbut : But q14 w w') (l14 : W9.heap.size ≤ q14) (hne : q14 ≠ q15) (k : w'.heap[q14]? = some (.cells (tot (.slice (some ⟨g, 0, none⟩) N N) m c).toArray 39 (0, 0))) (r : Row w' g S) : Un W9 q14 q15 gw N m m2 c c2 S Sb Wl g gb w' :=
  ⟨hbut.below h.b9 l14 h.b9.size, k, (hbut.block _ (lt_of_get h.kb) hne.symm).trans h.kb, r, (hbut.block _ (lt_of_get h.rb) (ne_typeU h.rb h.ka (by decide))).trans h.rb, (hbut.block _ (lt_of_get h.rw') (ne_typeU h.rw' h.ka (by decide))).trans h.rw'⟩
theorem Un.setB {m : Int} {c : Nat → Nat} {S : List Int} {g : Nat} (h : Un W9 q14 q15 gw N m1 m2 c1 c2 Sa Sb Wl ga gb w) (hbut : But q15 w w') (l15 : W9.heap.size ≤ q15) (hne : q14 ≠ q15) (k : w'.heap[q15]? = some (.cells (tot (.slice (some ⟨g, 0, none⟩) N N) m c).toArray 39 (0, 0))) (r : Row w' g S) : Un W9 q14 q15 gw N m1 m c1 c Sa S Wl ga g w' :=
  ⟨hbut.below h.b9 l15 h.b9.size, (hbut.block _ (lt_of_get h.ka) hne).trans h.ka, k, (hbut.block _ (lt_of_get h.ra) (ne_typeU h.ra h.kb (by decide))).trans h.ra, r, (hbut.block _ (lt_of_get h.rw') (ne_typeU h.rw' h.kb (by decide))).trans h.rw'⟩
theorem Un.setW {W : List Int} (h : Un W9 q14 q15 gw N m1 m2 c1 c2 Sa Sb Wl ga gb w) (hbut : But gw w w') (lgw : W9.heap.size ≤ gw) (k : WRow w' gw W) : Un W9 q14 q15 gw N m1 m2 c1 c2 Sa Sb W ga gb w' :=
  ⟨hbut.below h.b9 lgw h.b9.size, (hbut.block _ (lt_of_get h.ka) (ne_typeU h.ka h.rw' (by decide))).trans h.ka, (hbut.block _ (lt_of_get h.kb) (ne_typeU h.kb h.rw' (by decide))).trans h.kb, (hbut.block _ (lt_of_get h.ra) (ne_typeU h.ra h.rw' (by decide))).trans h.ra, (hbut.block _ (lt_of_get h.rb) (ne_typeU h.rb h.rw' (by decide))).trans h.rb, k⟩
end
theorem cell_upU {w w' : World} {p : Addr} {u : Value} (h : w.cell? p = some u) (hv : Below w.heap.size w w') : w'.cell? p = some u := (hv.cell (World.block_lt_of_cell? _ _ h)).trans h
theorem range_upU {w w' : World} {b o : Nat} {l : List Value} (h : w.rangeAt b o l) (hv : Below w.heap.size w w') : w'.rangeAt b o l := fun j v hj => (hv.cell (World.block_lt_of_cell? _ _ (h j v hj))).trans (h j v hj)
theorem lo_small {V mx : Int} (h0 : 0 ≤ V) (h1 : V ≤ mx) (h2 : mx ≤ 4294967295) : lo V = V := by unfold lo; omega
theorem measN_le {x : Ci} (h : x.outN ≤ 4096) : x.measuredN ≤ maxLen := by unfold Ci.measuredN maxLen; split <;> omega
theorem left_uU {i n : Nat} (h : (i : Int) < (n : Int)) : n - (intOf (.int .i64 ((i : Int) + 1))).toNat < n - (intOf (.int .i64 (i : Int))).toNat := by simp only [intOf]; omega


set_option maxRecDepth 20000 in
set_option maxHeartbeats 16000000 in
theorem unshards_walk (x : Ci) (p : Int) (s : ByteArray) (h : TGood x p s) (K F' B' L W' C P T : Int) (Am : Option Addr) (nm cm : Nat) (ms : Nat → Wl) (A : Option Addr) (n cA : Nat) (hnm : n ≤ maxLen) (hmm : nm ≤ maxLen) (rs : Nat → Rp) (ys : Nat → List Int) (os : List Nat) (hos : IdOK os)
    (w : World) (hT : Tabs w) (hR : RpsAt w A n rs) (hP : ∀ k, RpOK w (rs k) (ys k)) (hM : MsAt w Am nm ms) (hMo : ∀ k, WlOK w (ms k)) (hTk : ∀ w, Calls Tryd.prog 12 #[.agg (s13 K F' B' L W' C P T).toArray] w fun e w' => e = .returned (tvl x p s) ∧ Below w.heap.size w w') :
    Calls Tryd.prog 4 #[.agg (s13 K F' B' L W' C P T).toArray, .slice Am nm cm, .slice A n cA, .agg (idc os).toArray] w fun e w' => e = .returned (.bool true) ∧ Below w.heap.size w w' := by
  have hAw := Lib.hid (fun w hT => tawake_ok w hT)
  have hSu := Lib.hid (fun w (hn : n ≤ 20) (hT : Tabs w) hR hP => lsum_ok x p s h x.outN rfl n hn A cA rs ys w hT hR hP)
  have hN4 : x.outN ≤ 4096 := out_le4 h.good
  have hNew := Lib.hid (fun w => tnew_ok x p s h x.outN rfl hN4 w)
  have hO := Lib.hid (fun w => (out_any x h.good w : Calls Tryd.prog 20 #[.agg (ccl x).toArray] w _))
  have hmk := make_words x.outN hN4
  have honet := Lib.hid (one_tcl x p s)
  have honec := Lib.hid (ccl_one x)
  have hff := h.good.f
  have hidl : (idc os).length = 16 := idc_len hos
  have hionce := Lib.hid (one_idc os)
  unfold tvl at hTk hNew
  unfold totv at hNew
  replace hTk := Lib.hid hTk
  replace hT := Lib.hid hT
  replace hR := Lib.hid hR
  replace hP := Lib.hid hP
  replace hM := Lib.hid hM
  replace hMo := Lib.hid hMo
  obtain ⟨N, hNN⟩ : ∃ N, x.outN = N := ⟨_, rfl⟩
  rw [hNN] at hSu hN4 hNew hO hmk
  replace hNN := Lib.hid hNN
  replace h := Lib.hid h
  go_enter Tryd.func4, Tryd.ntmps4
  go_upto_region 1 with (fail)
  refine name_wp (fun w1 => Below w.heap.size w w1 ∧ w1.heap[w.heap.size]? = some (.cells (s13 K F' B' L W' C P T).toArray 25 (0, 0)) ∧ w1.heap[w.heap.size + 1]? = some (.cells (idc os).toArray 51 (0, 0)))
    ⟨((Below.refl _ _).alloc (Nat.le_refl _) _).alloc (by simp) _, alloc_keeps (alloc_at rfl), alloc_at (by simp)⟩ ?_
  rintro w1 ⟨hb, ks, ki⟩
  go_upto_region 3 with ((go_at_call 11; refine call_then (hAw.out _ (hT.out.up hb)) ?_; intro w2 hv))
  replace hb := below_next hb hb.size hv
  try (replace ks := keeps hv ks)
  try (replace ki := keeps hv ki)
  try (replace kt := keeps hv kt)
  try (replace kc := keeps hv kc)
  try (replace hOu := hOu.up hv)
  clear hv
  clear hAw
  by_cases hn : n ≤ 12
  · have n0 : decide ((n : Int) > 12) = false := by simp; omega
    have n1 : (n : Int) ≤ 12 := by omega
    go_upto_region 5 with (fail)
    go_wp2_with (first
      | (refine list_load_mid _ _ _ 0 _ _ rfl rfl rfl (At0.of_block ks) Tryd.underlying25 rfl (by kernel_rfl) ?_))
    refine call_then (hTk.out _) ?_
    intro w3 hv
    replace hb := below_next hb hb.size hv
    try (replace ks := keeps hv ks)
    try (replace ki := keeps hv ki)
    try (replace kt := keeps hv kt)
    try (replace kc := keeps hv kc)
    try (replace hOu := hOu.up hv)
    clear hv
    clear hTk ks
    go_upto_region 6 with (first
      | (refine list_store_whole _ _ _ _ (tcl x p s) nulTaskU 33 rfl rfl rfl rfl (alloc_at rfl) rfl (by kernel_rfl) honet.out ?_; intro wm hbut kt))
    have hv := hbut.below ((Below.refl w3.heap.size w3).alloc (Nat.le_refl _) (.cells nulTaskU.toArray 33 (0, 0))) (Nat.le_refl _) (by simp)
    clear hbut
    replace hb := below_next hb hb.size hv
    try (replace ks := keeps hv ks)
    try (replace ki := keeps hv ki)
    try (replace kt := keeps hv kt)
    try (replace kc := keeps hv kc)
    try (replace hOu := hOu.up hv)
    clear hv
    generalize w3.heap.size = q9 at *
    clear w3
    have hcm : wm.rangeAt q9 0 (ccl x) := sub_range (At0.of_block kt) 0 _ (tcl_ccl x p s)
    go_upto_region 7 with (first
      | (refine list_load_mid _ _ _ 0 _ _ rfl rfl rfl hcm Tryd.underlying31 rfl (by kernel_rfl) ?_)
      | (refine list_store_whole _ _ _ _ (ccl x) [.int .u8 0, .int .u8 0, .int .i64 0, .int .i64 0, .int .i64 0, .int .i64 0] 31 rfl rfl rfl rfl (alloc_at rfl) rfl (by kernel_rfl) honec.out ?_; intro wn hbut kc))
    have hv := hbut.below ((Below.refl wm.heap.size wm).alloc (Nat.le_refl _) _) (Nat.le_refl _) (by simp)
    clear hbut hcm
    replace hb := below_next hb hb.size hv
    try (replace ks := keeps hv ks)
    try (replace ki := keeps hv ki)
    try (replace kt := keeps hv kt)
    try (replace kc := keeps hv kc)
    try (replace hOu := hOu.up hv)
    clear hv
    generalize wm.heap.size = q10 at *
    clear wm
    have yf : wn.cell? ⟨q10, 1, none⟩ = some (.int .u8 x.f) := At0.of_block kc 1 _ rfl
    go_upto_region 8 with (fail)
    go_wp2_with (first
      | (refine list_load_mid _ _ _ 0 _ _ rfl rfl rfl (At0.of_block kt) Tryd.underlying33 rfl (by kernel_rfl) ?_))
    refine (hSu.out _ (by omega) (hT.out.up hb) (hR.out.up hb) (fun k => (hP.out k).upU hb)).mono ?_
    rintro e w4 ⟨g8, OB, cB, gs, rfl, hv, hg8, r8, hnB, hOu⟩
    clear hg8 hSu yf r8
    replace hb := below_next hb hb.size hv
    try (replace ks := keeps hv ks)
    try (replace ki := keeps hv ki)
    try (replace kt := keeps hv kt)
    try (replace kc := keeps hv kc)
    try (replace hOu := hOu.up hv)
    clear hv
    have hone := Lib.hid (one_tot (A := some ⟨g8, 0, none⟩) (n := N) (cp := N) (n : Int) (chkK (fun k => (rs k).ns) n))
    go_upto_region 9 with (first
      | (refine list_store_whole _ _ _ _ (tot (.slice (some ⟨g8, 0, none⟩) N N) (n : Int) (chkK (fun k => (rs k).ns) n)) noTot 39 rfl rfl rfl rfl (alloc_at rfl) rfl (by kernel_rfl) hone.out ?_; intro wm hbut k8))
    have hv := hbut.below ((Below.refl w4.heap.size w4).alloc (Nat.le_refl _) (.cells noTot.toArray 39 (0, 0))) (Nat.le_refl _) (by simp)
    clear hbut hone k8
    replace hb := below_next hb hb.size hv
    try (replace ks := keeps hv ks)
    try (replace ki := keeps hv ki)
    try (replace kt := keeps hv kt)
    try (replace kc := keeps hv kc)
    try (replace hOu := hOu.up hv)
    clear hv
    generalize w4.heap.size = q12 at *
    clear w4
    try rw [put_noneT]
    have hwq : q9 < wm.heap.size := lt_of_get kt
    go_cut [14, 15] (fun v u w' => ∃ q14 q15 g1 g2, v = .pointer (some ⟨q14, 0, none⟩) ∧ u = .pointer (some ⟨q15, 0, none⟩) ∧ q14 ≠ q15 ∧ wm.heap.size ≤ q14 ∧ wm.heap.size ≤ q15 ∧ Below wm.heap.size wm w' ∧ w'.heap[q14]? = some (.cells (tot (.slice (some ⟨g1, 0, none⟩) N N) 0 (fun _ => 0)).toArray 39 (0, 0)) ∧ w'.heap[q15]? = some (.cells (tot (.slice (some ⟨g2, 0, none⟩) N N) 0 (fun _ => 0)).toArray 39 (0, 0)) ∧ Row w' g1 (List.replicate N 0) ∧ Row w' g2 (List.replicate N 0))
    case first =>
      as_aux_lemma =>
              have hz := Below.refl wm.heap.size wm
              have ktz := kt
              refine segS_start (gb := fun k => k < wm.heap.size) 6 (by kernel_rfl) (by decide) ?_
              intro v0 hv
              replace ktz := keeps hv ktz
              replace hz := below_next hz hz.size hv
              try (replace k1 := keeps hv k1)
              try (replace k2 := keeps hv k2)
              try (replace r1 := r1.up hv)
              try (replace r2 := r2.up hv)
              clear hv
              refine segS_batch 4 [0, 2] (by kernel_rfl) rfl (by kernel_rfl) (by kernel_rfl) (by kernel_rfl) ?_
              apply Exists.intro
              refine ⟨fun ι _ φ hφ => ?_, fun v4 hv => ?_⟩
              · repeat (refine pick_step rfl ?_; first
                  | (refine quiet_load_mid _ _ _ 0 _ _ rfl rfl rfl (mid_familyT hφ (At0.of_block ktz) hwq) Tryd.underlying33 rfl (by kernel_rfl) ?_; simp only [Act.put, List.setIfInBounds_toArray, List.set_cons_succ, List.set_cons_zero])
                  | go_big_quiet_step (fail))
                exact pick_end
              replace hz := below_next hz hz.size hv
              try (replace k1 := keeps hv k1)
              try (replace k2 := keeps hv k2)
              try (replace r1 := r1.up hv)
              try (replace r2 := r2.up hv)
              clear hv
              clear ktz
              refine segS_more [1, 4, 5] (by kernel_rfl) (by decide) ?_
              intro j hj
              simp only [List.mem_cons, List.not_mem_nil, or_false] at hj
              rcases hj with rfl | rfl | rfl
              · refine ⟨by decide, _, rfl, ?_⟩
                intro v9 K2 hv hK
                replace hz := below_next hz hz.size hv
                try (replace k1 := keeps hv k1)
                try (replace k2 := keeps hv k2)
                try (replace r1 := r1.up hv)
                try (replace r2 := r2.up hv)
                clear hv
                replace hK := Lib.hid hK
                go_simp
                refine (hNew.out _).mono ?_
                rintro e vb ⟨g1, rfl, hv, hgn, r1⟩
                refine hK.out _ _ (HeldS.of_below hv) ?_
                clear hK K2 hgn
                replace hz := below_next hz hz.size hv
                try (replace k1 := keeps hv k1)
                try (replace k2 := keeps hv k2)
                try (replace r1 := r1.up hv)
                try (replace r2 := r2.up hv)
                clear hv
                refine segS_more [3, 4, 5] (by kernel_rfl) (by decide) ?_
                intro j hj
                simp only [List.mem_cons, List.not_mem_nil, or_false] at hj
                rcases hj with rfl | rfl | rfl
                · refine ⟨by decide, _, rfl, ?_⟩
                  intro v9 K2 hv hK
                  replace hz := below_next hz hz.size hv
                  try (replace k1 := keeps hv k1)
                  try (replace k2 := keeps hv k2)
                  try (replace r1 := r1.up hv)
                  try (replace r2 := r2.up hv)
                  clear hv
                  replace hK := Lib.hid hK
                  go_simp
                  refine (hNew.out _).mono ?_
                  rintro e vb ⟨g2, rfl, hv, hgn, r2⟩
                  refine hK.out _ _ (HeldS.of_below hv) ?_
                  clear hK K2 hgn
                  replace hz := below_next hz hz.size hv
                  try (replace k1 := keeps hv k1)
                  try (replace k2 := keeps hv k2)
                  try (replace r1 := r1.up hv)
                  try (replace r2 := r2.up hv)
                  clear hv
                  refine segS_more [4, 5] (by kernel_rfl) (by decide) ?_
                  intro j hj
                  simp only [List.mem_cons, List.not_mem_nil, or_false] at hj
                  rcases hj with rfl | rfl
                  · refine ⟨by decide, _, rfl, ?_⟩
                    intro v7 K2 hv hK
                    replace hz := below_next hz hz.size hv
                    try (replace k1 := keeps hv k1)
                    try (replace k2 := keeps hv k2)
                    try (replace r1 := r1.up hv)
                    try (replace r2 := r2.up hv)
                    clear hv
                    replace hK := Lib.hid hK
                    go_simp
                    have hv := (Below.refl v7.heap.size v7).alloc (Nat.le_refl _) (.cells #[.slice none 0 0, .int .i64 0, .int .u8 0, .int .u8 0, .int .u8 0, .int .u8 0, .int .u8 0, .int .u8 0, .int .u8 0, .int .u8 0, .int .u8 0, .int .u8 0, .int .u8 0, .int .u8 0, .int .u8 0, .int .u8 0, .int .u8 0, .int .u8 0] 39 (0, 0))
                    refine hK.out _ _ (HeldS.of_below hv) ?_
                    clear hK K2
                    have k1 : (v7.alloc (.cells #[.slice none 0 0, .int .i64 0, .int .u8 0, .int .u8 0, .int .u8 0, .int .u8 0, .int .u8 0, .int .u8 0, .int .u8 0, .int .u8 0, .int .u8 0, .int .u8 0, .int .u8 0, .int .u8 0, .int .u8 0, .int .u8 0, .int .u8 0, .int .u8 0] 39 (0, 0))).heap[v7.heap.size]? = some (.cells noTot.toArray 39 (0, 0)) := alloc_at rfl
                    have lq14 : wm.heap.size ≤ v7.heap.size := hz.size
                    skip
                    replace hz := below_next hz hz.size hv
                    try (replace k1 := keeps hv k1)
                    try (replace k2 := keeps hv k2)
                    try (replace r1 := r1.up hv)
                    try (replace r2 := r2.up hv)
                    clear hv
                    generalize v7.alloc (.cells #[.slice none 0 0, .int .i64 0, .int .u8 0, .int .u8 0, .int .u8 0, .int .u8 0, .int .u8 0, .int .u8 0, .int .u8 0, .int .u8 0, .int .u8 0, .int .u8 0, .int .u8 0, .int .u8 0, .int .u8 0, .int .u8 0, .int .u8 0, .int .u8 0] 39 (0, 0)) = v8 at *
                    generalize v7.heap.size = q14 at *
                    refine segS_one 5 _ (by decide) rfl (by kernel_rfl) ?_
                    intro v7 K2 hv hK
                    replace hz := below_next hz hz.size hv
                    try (replace k1 := keeps hv k1)
                    try (replace k2 := keeps hv k2)
                    try (replace r1 := r1.up hv)
                    try (replace r2 := r2.up hv)
                    clear hv
                    replace hK := Lib.hid hK
                    go_simp
                    have hv := (Below.refl v7.heap.size v7).alloc (Nat.le_refl _) (.cells #[.slice none 0 0, .int .i64 0, .int .u8 0, .int .u8 0, .int .u8 0, .int .u8 0, .int .u8 0, .int .u8 0, .int .u8 0, .int .u8 0, .int .u8 0, .int .u8 0, .int .u8 0, .int .u8 0, .int .u8 0, .int .u8 0, .int .u8 0, .int .u8 0] 39 (0, 0))
                    refine hK.out _ _ (HeldS.of_below hv) ?_
                    clear hK K2
                    have k2 : (v7.alloc (.cells #[.slice none 0 0, .int .i64 0, .int .u8 0, .int .u8 0, .int .u8 0, .int .u8 0, .int .u8 0, .int .u8 0, .int .u8 0, .int .u8 0, .int .u8 0, .int .u8 0, .int .u8 0, .int .u8 0, .int .u8 0, .int .u8 0, .int .u8 0, .int .u8 0] 39 (0, 0))).heap[v7.heap.size]? = some (.cells noTot.toArray 39 (0, 0)) := alloc_at rfl
                    have lq15 : wm.heap.size ≤ v7.heap.size := hz.size
                    have hne : q14 ≠ v7.heap.size := Nat.ne_of_lt (lt_of_get k1)
                    replace hz := below_next hz hz.size hv
                    try (replace k1 := keeps hv k1)
                    try (replace k2 := keeps hv k2)
                    try (replace r1 := r1.up hv)
                    try (replace r2 := r2.up hv)
                    clear hv
                    generalize v7.alloc (.cells #[.slice none 0 0, .int .i64 0, .int .u8 0, .int .u8 0, .int .u8 0, .int .u8 0, .int .u8 0, .int .u8 0, .int .u8 0, .int .u8 0, .int .u8 0, .int .u8 0, .int .u8 0, .int .u8 0, .int .u8 0, .int .u8 0, .int .u8 0, .int .u8 0] 39 (0, 0)) = v8 at *
                    generalize v7.heap.size = q15 at *
                    refine segS_tail (by kernel_rfl) ?_
                    intro v5 hv
                    replace hz := below_next hz hz.size hv
                    try (replace k1 := keeps hv k1)
                    try (replace k2 := keeps hv k2)
                    try (replace r1 := r1.up hv)
                    try (replace r2 := r2.up hv)
                    clear hv
                    simp only [List.drop_succ_cons, List.drop_zero]
                    have hone1 := Lib.hid (one_tot (A := some ⟨g1, 0, none⟩) (n := N) (cp := N) 0 (fun _ => 0))
                    have hone2 := Lib.hid (one_tot (A := some ⟨g2, 0, none⟩) (n := N) (cp := N) 0 (fun _ => 0))
                    go_wp2_with (first
                      | (refine list_store_whole _ _ _ _ (tot (.slice (some ⟨g1, 0, none⟩) N N) 0 (fun _ => 0)) noTot 39 rfl rfl rfl rfl k1 rfl (by kernel_rfl) hone1.out ?_; intro vm hbut kr; replace hz := hbut.below hz lq14 hz.size; replace k2 := (hbut.block _ (lt_of_get k2) hne.symm).trans k2; replace r1 : Row vm g1 _ := (hbut.block _ (lt_of_get r1) (ne_typeU r1 k1 (by decide))).trans r1; replace r2 : Row vm g2 _ := (hbut.block _ (lt_of_get r2) (ne_typeU r2 k1 (by decide))).trans r2; clear hbut k1; have k1 := kr; clear kr)
                      | (refine list_store_whole _ _ _ _ (tot (.slice (some ⟨g2, 0, none⟩) N N) 0 (fun _ => 0)) noTot 39 rfl rfl rfl rfl k2 rfl (by kernel_rfl) hone2.out ?_; intro vn hbut kr; replace hz := hbut.below hz lq15 hz.size; replace k1 := (hbut.block _ (lt_of_get k1) hne).trans k1; replace r1 : Row vn g1 _ := (hbut.block _ (lt_of_get r1) (ne_typeU r1 k2 (by decide))).trans r1; replace r2 : Row vn g2 _ := (hbut.block _ (lt_of_get r2) (ne_typeU r2 k2 (by decide))).trans r2; clear hbut k2; have k2 := kr; clear kr))
                    refine calm_normal ?_
                    go_wp2
                    go_meet
                    exact ⟨q14, q15, g1, g2, rfl, rfl, hne, lq14, lq15, hz, k1, k2, r1, r2⟩
                  · refine ⟨by decide, _, rfl, ?_⟩
                    intro v7 K2 hv hK
                    replace hz := below_next hz hz.size hv
                    try (replace k1 := keeps hv k1)
                    try (replace k2 := keeps hv k2)
                    try (replace r1 := r1.up hv)
                    try (replace r2 := r2.up hv)
                    clear hv
                    replace hK := Lib.hid hK
                    go_simp
                    have hv := (Below.refl v7.heap.size v7).alloc (Nat.le_refl _) (.cells #[.slice none 0 0, .int .i64 0, .int .u8 0, .int .u8 0, .int .u8 0, .int .u8 0, .int .u8 0, .int .u8 0, .int .u8 0, .int .u8 0, .int .u8 0, .int .u8 0, .int .u8 0, .int .u8 0, .int .u8 0, .int .u8 0, .int .u8 0, .int .u8 0] 39 (0, 0))
                    refine hK.out _ _ (HeldS.of_below hv) ?_
                    clear hK K2
                    have k2 : (v7.alloc (.cells #[.slice none 0 0, .int .i64 0, .int .u8 0, .int .u8 0, .int .u8 0, .int .u8 0, .int .u8 0, .int .u8 0, .int .u8 0, .int .u8 0, .int .u8 0, .int .u8 0, .int .u8 0, .int .u8 0, .int .u8 0, .int .u8 0, .int .u8 0, .int .u8 0] 39 (0, 0))).heap[v7.heap.size]? = some (.cells noTot.toArray 39 (0, 0)) := alloc_at rfl
                    have lq15 : wm.heap.size ≤ v7.heap.size := hz.size
                    skip
                    replace hz := below_next hz hz.size hv
                    try (replace k1 := keeps hv k1)
                    try (replace k2 := keeps hv k2)
                    try (replace r1 := r1.up hv)
                    try (replace r2 := r2.up hv)
                    clear hv
                    generalize v7.alloc (.cells #[.slice none 0 0, .int .i64 0, .int .u8 0, .int .u8 0, .int .u8 0, .int .u8 0, .int .u8 0, .int .u8 0, .int .u8 0, .int .u8 0, .int .u8 0, .int .u8 0, .int .u8 0, .int .u8 0, .int .u8 0, .int .u8 0, .int .u8 0, .int .u8 0] 39 (0, 0)) = v8 at *
                    generalize v7.heap.size = q15 at *
                    refine segS_one 4 _ (by decide) rfl (by kernel_rfl) ?_
                    intro v7 K2 hv hK
                    replace hz := below_next hz hz.size hv
                    try (replace k1 := keeps hv k1)
                    try (replace k2 := keeps hv k2)
                    try (replace r1 := r1.up hv)
                    try (replace r2 := r2.up hv)
                    clear hv
                    replace hK := Lib.hid hK
                    go_simp
                    have hv := (Below.refl v7.heap.size v7).alloc (Nat.le_refl _) (.cells #[.slice none 0 0, .int .i64 0, .int .u8 0, .int .u8 0, .int .u8 0, .int .u8 0, .int .u8 0, .int .u8 0, .int .u8 0, .int .u8 0, .int .u8 0, .int .u8 0, .int .u8 0, .int .u8 0, .int .u8 0, .int .u8 0, .int .u8 0, .int .u8 0] 39 (0, 0))
                    refine hK.out _ _ (HeldS.of_below hv) ?_
                    clear hK K2
                    have k1 : (v7.alloc (.cells #[.slice none 0 0, .int .i64 0, .int .u8 0, .int .u8 0, .int .u8 0, .int .u8 0, .int .u8 0, .int .u8 0, .int .u8 0, .int .u8 0, .int .u8 0, .int .u8 0, .int .u8 0, .int .u8 0, .int .u8 0, .int .u8 0, .int .u8 0, .int .u8 0] 39 (0, 0))).heap[v7.heap.size]? = some (.cells noTot.toArray 39 (0, 0)) := alloc_at rfl
                    have lq14 : wm.heap.size ≤ v7.heap.size := hz.size
                    have hne : v7.heap.size ≠ q15 := (Nat.ne_of_lt (lt_of_get k2)).symm
                    replace hz := below_next hz hz.size hv
                    try (replace k1 := keeps hv k1)
                    try (replace k2 := keeps hv k2)
                    try (replace r1 := r1.up hv)
                    try (replace r2 := r2.up hv)
                    clear hv
                    generalize v7.alloc (.cells #[.slice none 0 0, .int .i64 0, .int .u8 0, .int .u8 0, .int .u8 0, .int .u8 0, .int .u8 0, .int .u8 0, .int .u8 0, .int .u8 0, .int .u8 0, .int .u8 0, .int .u8 0, .int .u8 0, .int .u8 0, .int .u8 0, .int .u8 0, .int .u8 0] 39 (0, 0)) = v8 at *
                    generalize v7.heap.size = q14 at *
                    refine segS_tail (by kernel_rfl) ?_
                    intro v5 hv
                    replace hz := below_next hz hz.size hv
                    try (replace k1 := keeps hv k1)
                    try (replace k2 := keeps hv k2)
                    try (replace r1 := r1.up hv)
                    try (replace r2 := r2.up hv)
                    clear hv
                    simp only [List.drop_succ_cons, List.drop_zero]
                    have hone1 := Lib.hid (one_tot (A := some ⟨g1, 0, none⟩) (n := N) (cp := N) 0 (fun _ => 0))
                    have hone2 := Lib.hid (one_tot (A := some ⟨g2, 0, none⟩) (n := N) (cp := N) 0 (fun _ => 0))
                    go_wp2_with (first
                      | (refine list_store_whole _ _ _ _ (tot (.slice (some ⟨g1, 0, none⟩) N N) 0 (fun _ => 0)) noTot 39 rfl rfl rfl rfl k1 rfl (by kernel_rfl) hone1.out ?_; intro vm hbut kr; replace hz := hbut.below hz lq14 hz.size; replace k2 := (hbut.block _ (lt_of_get k2) hne.symm).trans k2; replace r1 : Row vm g1 _ := (hbut.block _ (lt_of_get r1) (ne_typeU r1 k1 (by decide))).trans r1; replace r2 : Row vm g2 _ := (hbut.block _ (lt_of_get r2) (ne_typeU r2 k1 (by decide))).trans r2; clear hbut k1; have k1 := kr; clear kr)
                      | (refine list_store_whole _ _ _ _ (tot (.slice (some ⟨g2, 0, none⟩) N N) 0 (fun _ => 0)) noTot 39 rfl rfl rfl rfl k2 rfl (by kernel_rfl) hone2.out ?_; intro vn hbut kr; replace hz := hbut.below hz lq15 hz.size; replace k1 := (hbut.block _ (lt_of_get k1) hne).trans k1; replace r1 : Row vn g1 _ := (hbut.block _ (lt_of_get r1) (ne_typeU r1 k2 (by decide))).trans r1; replace r2 : Row vn g2 _ := (hbut.block _ (lt_of_get r2) (ne_typeU r2 k2 (by decide))).trans r2; clear hbut k2; have k2 := kr; clear kr))
                    refine calm_normal ?_
                    go_wp2
                    go_meet
                    exact ⟨q14, q15, g1, g2, rfl, rfl, hne, lq14, lq15, hz, k1, k2, r1, r2⟩
                · refine ⟨by decide, _, rfl, ?_⟩
                  intro v7 K2 hv hK
                  replace hz := below_next hz hz.size hv
                  try (replace k1 := keeps hv k1)
                  try (replace k2 := keeps hv k2)
                  try (replace r1 := r1.up hv)
                  try (replace r2 := r2.up hv)
                  clear hv
                  replace hK := Lib.hid hK
                  go_simp
                  have hv := (Below.refl v7.heap.size v7).alloc (Nat.le_refl _) (.cells #[.slice none 0 0, .int .i64 0, .int .u8 0, .int .u8 0, .int .u8 0, .int .u8 0, .int .u8 0, .int .u8 0, .int .u8 0, .int .u8 0, .int .u8 0, .int .u8 0, .int .u8 0, .int .u8 0, .int .u8 0, .int .u8 0, .int .u8 0, .int .u8 0] 39 (0, 0))
                  refine hK.out _ _ (HeldS.of_below hv) ?_
                  clear hK K2
                  have k1 : (v7.alloc (.cells #[.slice none 0 0, .int .i64 0, .int .u8 0, .int .u8 0, .int .u8 0, .int .u8 0, .int .u8 0, .int .u8 0, .int .u8 0, .int .u8 0, .int .u8 0, .int .u8 0, .int .u8 0, .int .u8 0, .int .u8 0, .int .u8 0, .int .u8 0, .int .u8 0] 39 (0, 0))).heap[v7.heap.size]? = some (.cells noTot.toArray 39 (0, 0)) := alloc_at rfl
                  have lq14 : wm.heap.size ≤ v7.heap.size := hz.size
                  skip
                  replace hz := below_next hz hz.size hv
                  try (replace k1 := keeps hv k1)
                  try (replace k2 := keeps hv k2)
                  try (replace r1 := r1.up hv)
                  try (replace r2 := r2.up hv)
                  clear hv
                  generalize v7.alloc (.cells #[.slice none 0 0, .int .i64 0, .int .u8 0, .int .u8 0, .int .u8 0, .int .u8 0, .int .u8 0, .int .u8 0, .int .u8 0, .int .u8 0, .int .u8 0, .int .u8 0, .int .u8 0, .int .u8 0, .int .u8 0, .int .u8 0, .int .u8 0, .int .u8 0] 39 (0, 0)) = v8 at *
                  generalize v7.heap.size = q14 at *
                  refine segS_more [3, 5] (by kernel_rfl) (by decide) ?_
                  intro j hj
                  simp only [List.mem_cons, List.not_mem_nil, or_false] at hj
                  rcases hj with rfl | rfl
                  · refine ⟨by decide, _, rfl, ?_⟩
                    intro v9 K2 hv hK
                    replace hz := below_next hz hz.size hv
                    try (replace k1 := keeps hv k1)
                    try (replace k2 := keeps hv k2)
                    try (replace r1 := r1.up hv)
                    try (replace r2 := r2.up hv)
                    clear hv
                    replace hK := Lib.hid hK
                    go_simp
                    refine (hNew.out _).mono ?_
                    rintro e vb ⟨g2, rfl, hv, hgn, r2⟩
                    refine hK.out _ _ (HeldS.of_below hv) ?_
                    clear hK K2 hgn
                    replace hz := below_next hz hz.size hv
                    try (replace k1 := keeps hv k1)
                    try (replace k2 := keeps hv k2)
                    try (replace r1 := r1.up hv)
                    try (replace r2 := r2.up hv)
                    clear hv
                    refine segS_one 5 _ (by decide) rfl (by kernel_rfl) ?_
                    intro v7 K2 hv hK
                    replace hz := below_next hz hz.size hv
                    try (replace k1 := keeps hv k1)
                    try (replace k2 := keeps hv k2)
                    try (replace r1 := r1.up hv)
                    try (replace r2 := r2.up hv)
                    clear hv
                    replace hK := Lib.hid hK
                    go_simp
                    have hv := (Below.refl v7.heap.size v7).alloc (Nat.le_refl _) (.cells #[.slice none 0 0, .int .i64 0, .int .u8 0, .int .u8 0, .int .u8 0, .int .u8 0, .int .u8 0, .int .u8 0, .int .u8 0, .int .u8 0, .int .u8 0, .int .u8 0, .int .u8 0, .int .u8 0, .int .u8 0, .int .u8 0, .int .u8 0, .int .u8 0] 39 (0, 0))
                    refine hK.out _ _ (HeldS.of_below hv) ?_
                    clear hK K2
                    have k2 : (v7.alloc (.cells #[.slice none 0 0, .int .i64 0, .int .u8 0, .int .u8 0, .int .u8 0, .int .u8 0, .int .u8 0, .int .u8 0, .int .u8 0, .int .u8 0, .int .u8 0, .int .u8 0, .int .u8 0, .int .u8 0, .int .u8 0, .int .u8 0, .int .u8 0, .int .u8 0] 39 (0, 0))).heap[v7.heap.size]? = some (.cells noTot.toArray 39 (0, 0)) := alloc_at rfl
                    have lq15 : wm.heap.size ≤ v7.heap.size := hz.size
                    have hne : q14 ≠ v7.heap.size := Nat.ne_of_lt (lt_of_get k1)
                    replace hz := below_next hz hz.size hv
                    try (replace k1 := keeps hv k1)
                    try (replace k2 := keeps hv k2)
                    try (replace r1 := r1.up hv)
                    try (replace r2 := r2.up hv)
                    clear hv
                    generalize v7.alloc (.cells #[.slice none 0 0, .int .i64 0, .int .u8 0, .int .u8 0, .int .u8 0, .int .u8 0, .int .u8 0, .int .u8 0, .int .u8 0, .int .u8 0, .int .u8 0, .int .u8 0, .int .u8 0, .int .u8 0, .int .u8 0, .int .u8 0, .int .u8 0, .int .u8 0] 39 (0, 0)) = v8 at *
                    generalize v7.heap.size = q15 at *
                    refine segS_tail (by kernel_rfl) ?_
                    intro v5 hv
                    replace hz := below_next hz hz.size hv
                    try (replace k1 := keeps hv k1)
                    try (replace k2 := keeps hv k2)
                    try (replace r1 := r1.up hv)
                    try (replace r2 := r2.up hv)
                    clear hv
                    simp only [List.drop_succ_cons, List.drop_zero]
                    have hone1 := Lib.hid (one_tot (A := some ⟨g1, 0, none⟩) (n := N) (cp := N) 0 (fun _ => 0))
                    have hone2 := Lib.hid (one_tot (A := some ⟨g2, 0, none⟩) (n := N) (cp := N) 0 (fun _ => 0))
                    go_wp2_with (first
                      | (refine list_store_whole _ _ _ _ (tot (.slice (some ⟨g1, 0, none⟩) N N) 0 (fun _ => 0)) noTot 39 rfl rfl rfl rfl k1 rfl (by kernel_rfl) hone1.out ?_; intro vm hbut kr; replace hz := hbut.below hz lq14 hz.size; replace k2 := (hbut.block _ (lt_of_get k2) hne.symm).trans k2; replace r1 : Row vm g1 _ := (hbut.block _ (lt_of_get r1) (ne_typeU r1 k1 (by decide))).trans r1; replace r2 : Row vm g2 _ := (hbut.block _ (lt_of_get r2) (ne_typeU r2 k1 (by decide))).trans r2; clear hbut k1; have k1 := kr; clear kr)
                      | (refine list_store_whole _ _ _ _ (tot (.slice (some ⟨g2, 0, none⟩) N N) 0 (fun _ => 0)) noTot 39 rfl rfl rfl rfl k2 rfl (by kernel_rfl) hone2.out ?_; intro vn hbut kr; replace hz := hbut.below hz lq15 hz.size; replace k1 := (hbut.block _ (lt_of_get k1) hne).trans k1; replace r1 : Row vn g1 _ := (hbut.block _ (lt_of_get r1) (ne_typeU r1 k2 (by decide))).trans r1; replace r2 : Row vn g2 _ := (hbut.block _ (lt_of_get r2) (ne_typeU r2 k2 (by decide))).trans r2; clear hbut k2; have k2 := kr; clear kr))
                    refine calm_normal ?_
                    go_wp2
                    go_meet
                    exact ⟨q14, q15, g1, g2, rfl, rfl, hne, lq14, lq15, hz, k1, k2, r1, r2⟩
                  · refine ⟨by decide, _, rfl, ?_⟩
                    intro v7 K2 hv hK
                    replace hz := below_next hz hz.size hv
                    try (replace k1 := keeps hv k1)
                    try (replace k2 := keeps hv k2)
                    try (replace r1 := r1.up hv)
                    try (replace r2 := r2.up hv)
                    clear hv
                    replace hK := Lib.hid hK
                    go_simp
                    have hv := (Below.refl v7.heap.size v7).alloc (Nat.le_refl _) (.cells #[.slice none 0 0, .int .i64 0, .int .u8 0, .int .u8 0, .int .u8 0, .int .u8 0, .int .u8 0, .int .u8 0, .int .u8 0, .int .u8 0, .int .u8 0, .int .u8 0, .int .u8 0, .int .u8 0, .int .u8 0, .int .u8 0, .int .u8 0, .int .u8 0] 39 (0, 0))
                    refine hK.out _ _ (HeldS.of_below hv) ?_
                    clear hK K2
                    have k2 : (v7.alloc (.cells #[.slice none 0 0, .int .i64 0, .int .u8 0, .int .u8 0, .int .u8 0, .int .u8 0, .int .u8 0, .int .u8 0, .int .u8 0, .int .u8 0, .int .u8 0, .int .u8 0, .int .u8 0, .int .u8 0, .int .u8 0, .int .u8 0, .int .u8 0, .int .u8 0] 39 (0, 0))).heap[v7.heap.size]? = some (.cells noTot.toArray 39 (0, 0)) := alloc_at rfl
                    have lq15 : wm.heap.size ≤ v7.heap.size := hz.size
                    have hne : q14 ≠ v7.heap.size := Nat.ne_of_lt (lt_of_get k1)
                    replace hz := below_next hz hz.size hv
                    try (replace k1 := keeps hv k1)
                    try (replace k2 := keeps hv k2)
                    try (replace r1 := r1.up hv)
                    try (replace r2 := r2.up hv)
                    clear hv
                    generalize v7.alloc (.cells #[.slice none 0 0, .int .i64 0, .int .u8 0, .int .u8 0, .int .u8 0, .int .u8 0, .int .u8 0, .int .u8 0, .int .u8 0, .int .u8 0, .int .u8 0, .int .u8 0, .int .u8 0, .int .u8 0, .int .u8 0, .int .u8 0, .int .u8 0, .int .u8 0] 39 (0, 0)) = v8 at *
                    generalize v7.heap.size = q15 at *
                    refine segS_one 3 _ (by decide) rfl (by kernel_rfl) ?_
                    intro v9 K2 hv hK
                    replace hz := below_next hz hz.size hv
                    try (replace k1 := keeps hv k1)
                    try (replace k2 := keeps hv k2)
                    try (replace r1 := r1.up hv)
                    try (replace r2 := r2.up hv)
                    clear hv
                    replace hK := Lib.hid hK
                    go_simp
                    refine (hNew.out _).mono ?_
                    rintro e vb ⟨g2, rfl, hv, hgn, r2⟩
                    refine hK.out _ _ (HeldS.of_below hv) ?_
                    clear hK K2 hgn
                    replace hz := below_next hz hz.size hv
                    try (replace k1 := keeps hv k1)
                    try (replace k2 := keeps hv k2)
                    try (replace r1 := r1.up hv)
                    try (replace r2 := r2.up hv)
                    clear hv
                    refine segS_tail (by kernel_rfl) ?_
                    intro v5 hv
                    replace hz := below_next hz hz.size hv
                    try (replace k1 := keeps hv k1)
                    try (replace k2 := keeps hv k2)
                    try (replace r1 := r1.up hv)
                    try (replace r2 := r2.up hv)
                    clear hv
                    simp only [List.drop_succ_cons, List.drop_zero]
                    have hone1 := Lib.hid (one_tot (A := some ⟨g1, 0, none⟩) (n := N) (cp := N) 0 (fun _ => 0))
                    have hone2 := Lib.hid (one_tot (A := some ⟨g2, 0, none⟩) (n := N) (cp := N) 0 (fun _ => 0))
                    go_wp2_with (first
                      | (refine list_store_whole _ _ _ _ (tot (.slice (some ⟨g1, 0, none⟩) N N) 0 (fun _ => 0)) noTot 39 rfl rfl rfl rfl k1 rfl (by kernel_rfl) hone1.out ?_; intro vm hbut kr; replace hz := hbut.below hz lq14 hz.size; replace k2 := (hbut.block _ (lt_of_get k2) hne.symm).trans k2; replace r1 : Row vm g1 _ := (hbut.block _ (lt_of_get r1) (ne_typeU r1 k1 (by decide))).trans r1; replace r2 : Row vm g2 _ := (hbut.block _ (lt_of_get r2) (ne_typeU r2 k1 (by decide))).trans r2; clear hbut k1; have k1 := kr; clear kr)
                      | (refine list_store_whole _ _ _ _ (tot (.slice (some ⟨g2, 0, none⟩) N N) 0 (fun _ => 0)) noTot 39 rfl rfl rfl rfl k2 rfl (by kernel_rfl) hone2.out ?_; intro vn hbut kr; replace hz := hbut.below hz lq15 hz.size; replace k1 := (hbut.block _ (lt_of_get k1) hne).trans k1; replace r1 : Row vn g1 _ := (hbut.block _ (lt_of_get r1) (ne_typeU r1 k2 (by decide))).trans r1; replace r2 : Row vn g2 _ := (hbut.block _ (lt_of_get r2) (ne_typeU r2 k2 (by decide))).trans r2; clear hbut k2; have k2 := kr; clear kr))
                    refine calm_normal ?_
                    go_wp2
                    go_meet
                    exact ⟨q14, q15, g1, g2, rfl, rfl, hne, lq14, lq15, hz, k1, k2, r1, r2⟩
                · refine ⟨by decide, _, rfl, ?_⟩
                  intro v7 K2 hv hK
                  replace hz := below_next hz hz.size hv
                  try (replace k1 := keeps hv k1)
                  try (replace k2 := keeps hv k2)
                  try (replace r1 := r1.up hv)
                  try (replace r2 := r2.up hv)
                  clear hv
                  replace hK := Lib.hid hK
                  go_simp
                  have hv := (Below.refl v7.heap.size v7).alloc (Nat.le_refl _) (.cells #[.slice none 0 0, .int .i64 0, .int .u8 0, .int .u8 0, .int .u8 0, .int .u8 0, .int .u8 0, .int .u8 0, .int .u8 0, .int .u8 0, .int .u8 0, .int .u8 0, .int .u8 0, .int .u8 0, .int .u8 0, .int .u8 0, .int .u8 0, .int .u8 0] 39 (0, 0))
                  refine hK.out _ _ (HeldS.of_below hv) ?_
                  clear hK K2
                  have k2 : (v7.alloc (.cells #[.slice none 0 0, .int .i64 0, .int .u8 0, .int .u8 0, .int .u8 0, .int .u8 0, .int .u8 0, .int .u8 0, .int .u8 0, .int .u8 0, .int .u8 0, .int .u8 0, .int .u8 0, .int .u8 0, .int .u8 0, .int .u8 0, .int .u8 0, .int .u8 0] 39 (0, 0))).heap[v7.heap.size]? = some (.cells noTot.toArray 39 (0, 0)) := alloc_at rfl
                  have lq15 : wm.heap.size ≤ v7.heap.size := hz.size
                  skip
                  replace hz := below_next hz hz.size hv
                  try (replace k1 := keeps hv k1)
                  try (replace k2 := keeps hv k2)
                  try (replace r1 := r1.up hv)
                  try (replace r2 := r2.up hv)
                  clear hv
                  generalize v7.alloc (.cells #[.slice none 0 0, .int .i64 0, .int .u8 0, .int .u8 0, .int .u8 0, .int .u8 0, .int .u8 0, .int .u8 0, .int .u8 0, .int .u8 0, .int .u8 0, .int .u8 0, .int .u8 0, .int .u8 0, .int .u8 0, .int .u8 0, .int .u8 0, .int .u8 0] 39 (0, 0)) = v8 at *
                  generalize v7.heap.size = q15 at *
                  refine segS_more [3, 4] (by kernel_rfl) (by decide) ?_
                  intro j hj
                  simp only [List.mem_cons, List.not_mem_nil, or_false] at hj
                  rcases hj with rfl | rfl
                  · refine ⟨by decide, _, rfl, ?_⟩
                    intro v9 K2 hv hK
                    replace hz := below_next hz hz.size hv
                    try (replace k1 := keeps hv k1)
                    try (replace k2 := keeps hv k2)
                    try (replace r1 := r1.up hv)
                    try (replace r2 := r2.up hv)
                    clear hv
                    replace hK := Lib.hid hK
                    go_simp
                    refine (hNew.out _).mono ?_
                    rintro e vb ⟨g2, rfl, hv, hgn, r2⟩
                    refine hK.out _ _ (HeldS.of_below hv) ?_
                    clear hK K2 hgn
                    replace hz := below_next hz hz.size hv
                    try (replace k1 := keeps hv k1)
                    try (replace k2 := keeps hv k2)
                    try (replace r1 := r1.up hv)
                    try (replace r2 := r2.up hv)
                    clear hv
                    refine segS_one 4 _ (by decide) rfl (by kernel_rfl) ?_
                    intro v7 K2 hv hK
                    replace hz := below_next hz hz.size hv
                    try (replace k1 := keeps hv k1)
                    try (replace k2 := keeps hv k2)
                    try (replace r1 := r1.up hv)
                    try (replace r2 := r2.up hv)
                    clear hv
                    replace hK := Lib.hid hK
                    go_simp
                    have hv := (Below.refl v7.heap.size v7).alloc (Nat.le_refl _) (.cells #[.slice none 0 0, .int .i64 0, .int .u8 0, .int .u8 0, .int .u8 0, .int .u8 0, .int .u8 0, .int .u8 0, .int .u8 0, .int .u8 0, .int .u8 0, .int .u8 0, .int .u8 0, .int .u8 0, .int .u8 0, .int .u8 0, .int .u8 0, .int .u8 0] 39 (0, 0))
                    refine hK.out _ _ (HeldS.of_below hv) ?_
                    clear hK K2
                    have k1 : (v7.alloc (.cells #[.slice none 0 0, .int .i64 0, .int .u8 0, .int .u8 0, .int .u8 0, .int .u8 0, .int .u8 0, .int .u8 0, .int .u8 0, .int .u8 0, .int .u8 0, .int .u8 0, .int .u8 0, .int .u8 0, .int .u8 0, .int .u8 0, .int .u8 0, .int .u8 0] 39 (0, 0))).heap[v7.heap.size]? = some (.cells noTot.toArray 39 (0, 0)) := alloc_at rfl
                    have lq14 : wm.heap.size ≤ v7.heap.size := hz.size
                    have hne : v7.heap.size ≠ q15 := (Nat.ne_of_lt (lt_of_get k2)).symm
                    replace hz := below_next hz hz.size hv
                    try (replace k1 := keeps hv k1)
                    try (replace k2 := keeps hv k2)
                    try (replace r1 := r1.up hv)
                    try (replace r2 := r2.up hv)
                    clear hv
                    generalize v7.alloc (.cells #[.slice none 0 0, .int .i64 0, .int .u8 0, .int .u8 0, .int .u8 0, .int .u8 0, .int .u8 0, .int .u8 0, .int .u8 0, .int .u8 0, .int .u8 0, .int .u8 0, .int .u8 0, .int .u8 0, .int .u8 0, .int .u8 0, .int .u8 0, .int .u8 0] 39 (0, 0)) = v8 at *
                    generalize v7.heap.size = q14 at *
                    refine segS_tail (by kernel_rfl) ?_
                    intro v5 hv
                    replace hz := below_next hz hz.size hv
                    try (replace k1 := keeps hv k1)
                    try (replace k2 := keeps hv k2)
                    try (replace r1 := r1.up hv)
                    try (replace r2 := r2.up hv)
                    clear hv
                    simp only [List.drop_succ_cons, List.drop_zero]
                    have hone1 := Lib.hid (one_tot (A := some ⟨g1, 0, none⟩) (n := N) (cp := N) 0 (fun _ => 0))
                    have hone2 := Lib.hid (one_tot (A := some ⟨g2, 0, none⟩) (n := N) (cp := N) 0 (fun _ => 0))
                    go_wp2_with (first
                      | (refine list_store_whole _ _ _ _ (tot (.slice (some ⟨g1, 0, none⟩) N N) 0 (fun _ => 0)) noTot 39 rfl rfl rfl rfl k1 rfl (by kernel_rfl) hone1.out ?_; intro vm hbut kr; replace hz := hbut.below hz lq14 hz.size; replace k2 := (hbut.block _ (lt_of_get k2) hne.symm).trans k2; replace r1 : Row vm g1 _ := (hbut.block _ (lt_of_get r1) (ne_typeU r1 k1 (by decide))).trans r1; replace r2 : Row vm g2 _ := (hbut.block _ (lt_of_get r2) (ne_typeU r2 k1 (by decide))).trans r2; clear hbut k1; have k1 := kr; clear kr)
                      | (refine list_store_whole _ _ _ _ (tot (.slice (some ⟨g2, 0, none⟩) N N) 0 (fun _ => 0)) noTot 39 rfl rfl rfl rfl k2 rfl (by kernel_rfl) hone2.out ?_; intro vn hbut kr; replace hz := hbut.below hz lq15 hz.size; replace k1 := (hbut.block _ (lt_of_get k1) hne).trans k1; replace r1 : Row vn g1 _ := (hbut.block _ (lt_of_get r1) (ne_typeU r1 k2 (by decide))).trans r1; replace r2 : Row vn g2 _ := (hbut.block _ (lt_of_get r2) (ne_typeU r2 k2 (by decide))).trans r2; clear hbut k2; have k2 := kr; clear kr))
                    refine calm_normal ?_
                    go_wp2
                    go_meet
                    exact ⟨q14, q15, g1, g2, rfl, rfl, hne, lq14, lq15, hz, k1, k2, r1, r2⟩
                  · refine ⟨by decide, _, rfl, ?_⟩
                    intro v7 K2 hv hK
                    replace hz := below_next hz hz.size hv
                    try (replace k1 := keeps hv k1)
                    try (replace k2 := keeps hv k2)
                    try (replace r1 := r1.up hv)
                    try (replace r2 := r2.up hv)
                    clear hv
                    replace hK := Lib.hid hK
                    go_simp
                    have hv := (Below.refl v7.heap.size v7).alloc (Nat.le_refl _) (.cells #[.slice none 0 0, .int .i64 0, .int .u8 0, .int .u8 0, .int .u8 0, .int .u8 0, .int .u8 0, .int .u8 0, .int .u8 0, .int .u8 0, .int .u8 0, .int .u8 0, .int .u8 0, .int .u8 0, .int .u8 0, .int .u8 0, .int .u8 0, .int .u8 0] 39 (0, 0))
                    refine hK.out _ _ (HeldS.of_below hv) ?_
                    clear hK K2
                    have k1 : (v7.alloc (.cells #[.slice none 0 0, .int .i64 0, .int .u8 0, .int .u8 0, .int .u8 0, .int .u8 0, .int .u8 0, .int .u8 0, .int .u8 0, .int .u8 0, .int .u8 0, .int .u8 0, .int .u8 0, .int .u8 0, .int .u8 0, .int .u8 0, .int .u8 0, .int .u8 0] 39 (0, 0))).heap[v7.heap.size]? = some (.cells noTot.toArray 39 (0, 0)) := alloc_at rfl
                    have lq14 : wm.heap.size ≤ v7.heap.size := hz.size
                    have hne : v7.heap.size ≠ q15 := (Nat.ne_of_lt (lt_of_get k2)).symm
                    replace hz := below_next hz hz.size hv
                    try (replace k1 := keeps hv k1)
                    try (replace k2 := keeps hv k2)
                    try (replace r1 := r1.up hv)
                    try (replace r2 := r2.up hv)
                    clear hv
                    generalize v7.alloc (.cells #[.slice none 0 0, .int .i64 0, .int .u8 0, .int .u8 0, .int .u8 0, .int .u8 0, .int .u8 0, .int .u8 0, .int .u8 0, .int .u8 0, .int .u8 0, .int .u8 0, .int .u8 0, .int .u8 0, .int .u8 0, .int .u8 0, .int .u8 0, .int .u8 0] 39 (0, 0)) = v8 at *
                    generalize v7.heap.size = q14 at *
                    refine segS_one 3 _ (by decide) rfl (by kernel_rfl) ?_
                    intro v9 K2 hv hK
                    replace hz := below_next hz hz.size hv
                    try (replace k1 := keeps hv k1)
                    try (replace k2 := keeps hv k2)
                    try (replace r1 := r1.up hv)
                    try (replace r2 := r2.up hv)
                    clear hv
                    replace hK := Lib.hid hK
                    go_simp
                    refine (hNew.out _).mono ?_
                    rintro e vb ⟨g2, rfl, hv, hgn, r2⟩
                    refine hK.out _ _ (HeldS.of_below hv) ?_
                    clear hK K2 hgn
                    replace hz := below_next hz hz.size hv
                    try (replace k1 := keeps hv k1)
                    try (replace k2 := keeps hv k2)
                    try (replace r1 := r1.up hv)
                    try (replace r2 := r2.up hv)
                    clear hv
                    refine segS_tail (by kernel_rfl) ?_
                    intro v5 hv
                    replace hz := below_next hz hz.size hv
                    try (replace k1 := keeps hv k1)
                    try (replace k2 := keeps hv k2)
                    try (replace r1 := r1.up hv)
                    try (replace r2 := r2.up hv)
                    clear hv
                    simp only [List.drop_succ_cons, List.drop_zero]
                    have hone1 := Lib.hid (one_tot (A := some ⟨g1, 0, none⟩) (n := N) (cp := N) 0 (fun _ => 0))
                    have hone2 := Lib.hid (one_tot (A := some ⟨g2, 0, none⟩) (n := N) (cp := N) 0 (fun _ => 0))
                    go_wp2_with (first
                      | (refine list_store_whole _ _ _ _ (tot (.slice (some ⟨g1, 0, none⟩) N N) 0 (fun _ => 0)) noTot 39 rfl rfl rfl rfl k1 rfl (by kernel_rfl) hone1.out ?_; intro vm hbut kr; replace hz := hbut.below hz lq14 hz.size; replace k2 := (hbut.block _ (lt_of_get k2) hne.symm).trans k2; replace r1 : Row vm g1 _ := (hbut.block _ (lt_of_get r1) (ne_typeU r1 k1 (by decide))).trans r1; replace r2 : Row vm g2 _ := (hbut.block _ (lt_of_get r2) (ne_typeU r2 k1 (by decide))).trans r2; clear hbut k1; have k1 := kr; clear kr)
                      | (refine list_store_whole _ _ _ _ (tot (.slice (some ⟨g2, 0, none⟩) N N) 0 (fun _ => 0)) noTot 39 rfl rfl rfl rfl k2 rfl (by kernel_rfl) hone2.out ?_; intro vn hbut kr; replace hz := hbut.below hz lq15 hz.size; replace k1 := (hbut.block _ (lt_of_get k1) hne).trans k1; replace r1 : Row vn g1 _ := (hbut.block _ (lt_of_get r1) (ne_typeU r1 k2 (by decide))).trans r1; replace r2 : Row vn g2 _ := (hbut.block _ (lt_of_get r2) (ne_typeU r2 k2 (by decide))).trans r2; clear hbut k2; have k2 := kr; clear kr))
                    refine calm_normal ?_
                    go_wp2
                    go_meet
                    exact ⟨q14, q15, g1, g2, rfl, rfl, hne, lq14, lq15, hz, k1, k2, r1, r2⟩
              · refine ⟨by decide, _, rfl, ?_⟩
                intro v7 K2 hv hK
                replace hz := below_next hz hz.size hv
                try (replace k1 := keeps hv k1)
                try (replace k2 := keeps hv k2)
                try (replace r1 := r1.up hv)
                try (replace r2 := r2.up hv)
                clear hv
                replace hK := Lib.hid hK
                go_simp
                have hv := (Below.refl v7.heap.size v7).alloc (Nat.le_refl _) (.cells #[.slice none 0 0, .int .i64 0, .int .u8 0, .int .u8 0, .int .u8 0, .int .u8 0, .int .u8 0, .int .u8 0, .int .u8 0, .int .u8 0, .int .u8 0, .int .u8 0, .int .u8 0, .int .u8 0, .int .u8 0, .int .u8 0, .int .u8 0, .int .u8 0] 39 (0, 0))
                refine hK.out _ _ (HeldS.of_below hv) ?_
                clear hK K2
                have k1 : (v7.alloc (.cells #[.slice none 0 0, .int .i64 0, .int .u8 0, .int .u8 0, .int .u8 0, .int .u8 0, .int .u8 0, .int .u8 0, .int .u8 0, .int .u8 0, .int .u8 0, .int .u8 0, .int .u8 0, .int .u8 0, .int .u8 0, .int .u8 0, .int .u8 0, .int .u8 0] 39 (0, 0))).heap[v7.heap.size]? = some (.cells noTot.toArray 39 (0, 0)) := alloc_at rfl
                have lq14 : wm.heap.size ≤ v7.heap.size := hz.size
                skip
                replace hz := below_next hz hz.size hv
                try (replace k1 := keeps hv k1)
                try (replace k2 := keeps hv k2)
                try (replace r1 := r1.up hv)
                try (replace r2 := r2.up hv)
                clear hv
                generalize v7.alloc (.cells #[.slice none 0 0, .int .i64 0, .int .u8 0, .int .u8 0, .int .u8 0, .int .u8 0, .int .u8 0, .int .u8 0, .int .u8 0, .int .u8 0, .int .u8 0, .int .u8 0, .int .u8 0, .int .u8 0, .int .u8 0, .int .u8 0, .int .u8 0, .int .u8 0] 39 (0, 0)) = v8 at *
                generalize v7.heap.size = q14 at *
                refine segS_more [1, 5] (by kernel_rfl) (by decide) ?_
                intro j hj
                simp only [List.mem_cons, List.not_mem_nil, or_false] at hj
                rcases hj with rfl | rfl
                · refine ⟨by decide, _, rfl, ?_⟩
                  intro v9 K2 hv hK
                  replace hz := below_next hz hz.size hv
                  try (replace k1 := keeps hv k1)
                  try (replace k2 := keeps hv k2)
                  try (replace r1 := r1.up hv)
                  try (replace r2 := r2.up hv)
                  clear hv
                  replace hK := Lib.hid hK
                  go_simp
                  refine (hNew.out _).mono ?_
                  rintro e vb ⟨g1, rfl, hv, hgn, r1⟩
                  refine hK.out _ _ (HeldS.of_below hv) ?_
                  clear hK K2 hgn
                  replace hz := below_next hz hz.size hv
                  try (replace k1 := keeps hv k1)
                  try (replace k2 := keeps hv k2)
                  try (replace r1 := r1.up hv)
                  try (replace r2 := r2.up hv)
                  clear hv
                  refine segS_more [3, 5] (by kernel_rfl) (by decide) ?_
                  intro j hj
                  simp only [List.mem_cons, List.not_mem_nil, or_false] at hj
                  rcases hj with rfl | rfl
                  · refine ⟨by decide, _, rfl, ?_⟩
                    intro v9 K2 hv hK
                    replace hz := below_next hz hz.size hv
                    try (replace k1 := keeps hv k1)
                    try (replace k2 := keeps hv k2)
                    try (replace r1 := r1.up hv)
                    try (replace r2 := r2.up hv)
                    clear hv
                    replace hK := Lib.hid hK
                    go_simp
                    refine (hNew.out _).mono ?_
                    rintro e vb ⟨g2, rfl, hv, hgn, r2⟩
                    refine hK.out _ _ (HeldS.of_below hv) ?_
                    clear hK K2 hgn
                    replace hz := below_next hz hz.size hv
                    try (replace k1 := keeps hv k1)
                    try (replace k2 := keeps hv k2)
                    try (replace r1 := r1.up hv)
                    try (replace r2 := r2.up hv)
                    clear hv
                    refine segS_one 5 _ (by decide) rfl (by kernel_rfl) ?_
                    intro v7 K2 hv hK
                    replace hz := below_next hz hz.size hv
                    try (replace k1 := keeps hv k1)
                    try (replace k2 := keeps hv k2)
                    try (replace r1 := r1.up hv)
                    try (replace r2 := r2.up hv)
                    clear hv
                    replace hK := Lib.hid hK
                    go_simp
                    have hv := (Below.refl v7.heap.size v7).alloc (Nat.le_refl _) (.cells #[.slice none 0 0, .int .i64 0, .int .u8 0, .int .u8 0, .int .u8 0, .int .u8 0, .int .u8 0, .int .u8 0, .int .u8 0, .int .u8 0, .int .u8 0, .int .u8 0, .int .u8 0, .int .u8 0, .int .u8 0, .int .u8 0, .int .u8 0, .int .u8 0] 39 (0, 0))
                    refine hK.out _ _ (HeldS.of_below hv) ?_
                    clear hK K2
                    have k2 : (v7.alloc (.cells #[.slice none 0 0, .int .i64 0, .int .u8 0, .int .u8 0, .int .u8 0, .int .u8 0, .int .u8 0, .int .u8 0, .int .u8 0, .int .u8 0, .int .u8 0, .int .u8 0, .int .u8 0, .int .u8 0, .int .u8 0, .int .u8 0, .int .u8 0, .int .u8 0] 39 (0, 0))).heap[v7.heap.size]? = some (.cells noTot.toArray 39 (0, 0)) := alloc_at rfl
                    have lq15 : wm.heap.size ≤ v7.heap.size := hz.size
                    have hne : q14 ≠ v7.heap.size := Nat.ne_of_lt (lt_of_get k1)
                    replace hz := below_next hz hz.size hv
                    try (replace k1 := keeps hv k1)
                    try (replace k2 := keeps hv k2)
                    try (replace r1 := r1.up hv)
                    try (replace r2 := r2.up hv)
                    clear hv
                    generalize v7.alloc (.cells #[.slice none 0 0, .int .i64 0, .int .u8 0, .int .u8 0, .int .u8 0, .int .u8 0, .int .u8 0, .int .u8 0, .int .u8 0, .int .u8 0, .int .u8 0, .int .u8 0, .int .u8 0, .int .u8 0, .int .u8 0, .int .u8 0, .int .u8 0, .int .u8 0] 39 (0, 0)) = v8 at *
                    generalize v7.heap.size = q15 at *
                    refine segS_tail (by kernel_rfl) ?_
                    intro v5 hv
                    replace hz := below_next hz hz.size hv
                    try (replace k1 := keeps hv k1)
                    try (replace k2 := keeps hv k2)
                    try (replace r1 := r1.up hv)
                    try (replace r2 := r2.up hv)
                    clear hv
                    simp only [List.drop_succ_cons, List.drop_zero]
                    have hone1 := Lib.hid (one_tot (A := some ⟨g1, 0, none⟩) (n := N) (cp := N) 0 (fun _ => 0))
                    have hone2 := Lib.hid (one_tot (A := some ⟨g2, 0, none⟩) (n := N) (cp := N) 0 (fun _ => 0))
                    go_wp2_with (first
                      | (refine list_store_whole _ _ _ _ (tot (.slice (some ⟨g1, 0, none⟩) N N) 0 (fun _ => 0)) noTot 39 rfl rfl rfl rfl k1 rfl (by kernel_rfl) hone1.out ?_; intro vm hbut kr; replace hz := hbut.below hz lq14 hz.size; replace k2 := (hbut.block _ (lt_of_get k2) hne.symm).trans k2; replace r1 : Row vm g1 _ := (hbut.block _ (lt_of_get r1) (ne_typeU r1 k1 (by decide))).trans r1; replace r2 : Row vm g2 _ := (hbut.block _ (lt_of_get r2) (ne_typeU r2 k1 (by decide))).trans r2; clear hbut k1; have k1 := kr; clear kr)
                      | (refine list_store_whole _ _ _ _ (tot (.slice (some ⟨g2, 0, none⟩) N N) 0 (fun _ => 0)) noTot 39 rfl rfl rfl rfl k2 rfl (by kernel_rfl) hone2.out ?_; intro vn hbut kr; replace hz := hbut.below hz lq15 hz.size; replace k1 := (hbut.block _ (lt_of_get k1) hne).trans k1; replace r1 : Row vn g1 _ := (hbut.block _ (lt_of_get r1) (ne_typeU r1 k2 (by decide))).trans r1; replace r2 : Row vn g2 _ := (hbut.block _ (lt_of_get r2) (ne_typeU r2 k2 (by decide))).trans r2; clear hbut k2; have k2 := kr; clear kr))
                    refine calm_normal ?_
                    go_wp2
                    go_meet
                    exact ⟨q14, q15, g1, g2, rfl, rfl, hne, lq14, lq15, hz, k1, k2, r1, r2⟩
                  · refine ⟨by decide, _, rfl, ?_⟩
                    intro v7 K2 hv hK
                    replace hz := below_next hz hz.size hv
                    try (replace k1 := keeps hv k1)
                    try (replace k2 := keeps hv k2)
                    try (replace r1 := r1.up hv)
                    try (replace r2 := r2.up hv)
                    clear hv
                    replace hK := Lib.hid hK
                    go_simp
                    have hv := (Below.refl v7.heap.size v7).alloc (Nat.le_refl _) (.cells #[.slice none 0 0, .int .i64 0, .int .u8 0, .int .u8 0, .int .u8 0, .int .u8 0, .int .u8 0, .int .u8 0, .int .u8 0, .int .u8 0, .int .u8 0, .int .u8 0, .int .u8 0, .int .u8 0, .int .u8 0, .int .u8 0, .int .u8 0, .int .u8 0] 39 (0, 0))
                    refine hK.out _ _ (HeldS.of_below hv) ?_
                    clear hK K2
                    have k2 : (v7.alloc (.cells #[.slice none 0 0, .int .i64 0, .int .u8 0, .int .u8 0, .int .u8 0, .int .u8 0, .int .u8 0, .int .u8 0, .int .u8 0, .int .u8 0, .int .u8 0, .int .u8 0, .int .u8 0, .int .u8 0, .int .u8 0, .int .u8 0, .int .u8 0, .int .u8 0] 39 (0, 0))).heap[v7.heap.size]? = some (.cells noTot.toArray 39 (0, 0)) := alloc_at rfl
                    have lq15 : wm.heap.size ≤ v7.heap.size := hz.size
                    have hne : q14 ≠ v7.heap.size := Nat.ne_of_lt (lt_of_get k1)
                    replace hz := below_next hz hz.size hv
                    try (replace k1 := keeps hv k1)
                    try (replace k2 := keeps hv k2)
                    try (replace r1 := r1.up hv)
                    try (replace r2 := r2.up hv)
                    clear hv
                    generalize v7.alloc (.cells #[.slice none 0 0, .int .i64 0, .int .u8 0, .int .u8 0, .int .u8 0, .int .u8 0, .int .u8 0, .int .u8 0, .int .u8 0, .int .u8 0, .int .u8 0, .int .u8 0, .int .u8 0, .int .u8 0, .int .u8 0, .int .u8 0, .int .u8 0, .int .u8 0] 39 (0, 0)) = v8 at *
                    generalize v7.heap.size = q15 at *
                    refine segS_one 3 _ (by decide) rfl (by kernel_rfl) ?_
                    intro v9 K2 hv hK
                    replace hz := below_next hz hz.size hv
                    try (replace k1 := keeps hv k1)
                    try (replace k2 := keeps hv k2)
                    try (replace r1 := r1.up hv)
                    try (replace r2 := r2.up hv)
                    clear hv
                    replace hK := Lib.hid hK
                    go_simp
                    refine (hNew.out _).mono ?_
                    rintro e vb ⟨g2, rfl, hv, hgn, r2⟩
                    refine hK.out _ _ (HeldS.of_below hv) ?_
                    clear hK K2 hgn
                    replace hz := below_next hz hz.size hv
                    try (replace k1 := keeps hv k1)
                    try (replace k2 := keeps hv k2)
                    try (replace r1 := r1.up hv)
                    try (replace r2 := r2.up hv)
                    clear hv
                    refine segS_tail (by kernel_rfl) ?_
                    intro v5 hv
                    replace hz := below_next hz hz.size hv
                    try (replace k1 := keeps hv k1)
                    try (replace k2 := keeps hv k2)
                    try (replace r1 := r1.up hv)
                    try (replace r2 := r2.up hv)
                    clear hv
                    simp only [List.drop_succ_cons, List.drop_zero]
                    have hone1 := Lib.hid (one_tot (A := some ⟨g1, 0, none⟩) (n := N) (cp := N) 0 (fun _ => 0))
                    have hone2 := Lib.hid (one_tot (A := some ⟨g2, 0, none⟩) (n := N) (cp := N) 0 (fun _ => 0))
                    go_wp2_with (first
                      | (refine list_store_whole _ _ _ _ (tot (.slice (some ⟨g1, 0, none⟩) N N) 0 (fun _ => 0)) noTot 39 rfl rfl rfl rfl k1 rfl (by kernel_rfl) hone1.out ?_; intro vm hbut kr; replace hz := hbut.below hz lq14 hz.size; replace k2 := (hbut.block _ (lt_of_get k2) hne.symm).trans k2; replace r1 : Row vm g1 _ := (hbut.block _ (lt_of_get r1) (ne_typeU r1 k1 (by decide))).trans r1; replace r2 : Row vm g2 _ := (hbut.block _ (lt_of_get r2) (ne_typeU r2 k1 (by decide))).trans r2; clear hbut k1; have k1 := kr; clear kr)
                      | (refine list_store_whole _ _ _ _ (tot (.slice (some ⟨g2, 0, none⟩) N N) 0 (fun _ => 0)) noTot 39 rfl rfl rfl rfl k2 rfl (by kernel_rfl) hone2.out ?_; intro vn hbut kr; replace hz := hbut.below hz lq15 hz.size; replace k1 := (hbut.block _ (lt_of_get k1) hne).trans k1; replace r1 : Row vn g1 _ := (hbut.block _ (lt_of_get r1) (ne_typeU r1 k2 (by decide))).trans r1; replace r2 : Row vn g2 _ := (hbut.block _ (lt_of_get r2) (ne_typeU r2 k2 (by decide))).trans r2; clear hbut k2; have k2 := kr; clear kr))
                    refine calm_normal ?_
                    go_wp2
                    go_meet
                    exact ⟨q14, q15, g1, g2, rfl, rfl, hne, lq14, lq15, hz, k1, k2, r1, r2⟩
                · refine ⟨by decide, _, rfl, ?_⟩
                  intro v7 K2 hv hK
                  replace hz := below_next hz hz.size hv
                  try (replace k1 := keeps hv k1)
                  try (replace k2 := keeps hv k2)
                  try (replace r1 := r1.up hv)
                  try (replace r2 := r2.up hv)
                  clear hv
                  replace hK := Lib.hid hK
                  go_simp
                  have hv := (Below.refl v7.heap.size v7).alloc (Nat.le_refl _) (.cells #[.slice none 0 0, .int .i64 0, .int .u8 0, .int .u8 0, .int .u8 0, .int .u8 0, .int .u8 0, .int .u8 0, .int .u8 0, .int .u8 0, .int .u8 0, .int .u8 0, .int .u8 0, .int .u8 0, .int .u8 0, .int .u8 0, .int .u8 0, .int .u8 0] 39 (0, 0))
                  refine hK.out _ _ (HeldS.of_below hv) ?_
                  clear hK K2
                  have k2 : (v7.alloc (.cells #[.slice none 0 0, .int .i64 0, .int .u8 0, .int .u8 0, .int .u8 0, .int .u8 0, .int .u8 0, .int .u8 0, .int .u8 0, .int .u8 0, .int .u8 0, .int .u8 0, .int .u8 0, .int .u8 0, .int .u8 0, .int .u8 0, .int .u8 0, .int .u8 0] 39 (0, 0))).heap[v7.heap.size]? = some (.cells noTot.toArray 39 (0, 0)) := alloc_at rfl
                  have lq15 : wm.heap.size ≤ v7.heap.size := hz.size
                  have hne : q14 ≠ v7.heap.size := Nat.ne_of_lt (lt_of_get k1)
                  replace hz := below_next hz hz.size hv
                  try (replace k1 := keeps hv k1)
                  try (replace k2 := keeps hv k2)
                  try (replace r1 := r1.up hv)
                  try (replace r2 := r2.up hv)
                  clear hv
                  generalize v7.alloc (.cells #[.slice none 0 0, .int .i64 0, .int .u8 0, .int .u8 0, .int .u8 0, .int .u8 0, .int .u8 0, .int .u8 0, .int .u8 0, .int .u8 0, .int .u8 0, .int .u8 0, .int .u8 0, .int .u8 0, .int .u8 0, .int .u8 0, .int .u8 0, .int .u8 0] 39 (0, 0)) = v8 at *
                  generalize v7.heap.size = q15 at *
                  refine segS_one 1 _ (by decide) rfl (by kernel_rfl) ?_
                  intro v9 K2 hv hK
                  replace hz := below_next hz hz.size hv
                  try (replace k1 := keeps hv k1)
                  try (replace k2 := keeps hv k2)
                  try (replace r1 := r1.up hv)
                  try (replace r2 := r2.up hv)
                  clear hv
                  replace hK := Lib.hid hK
                  go_simp
                  refine (hNew.out _).mono ?_
                  rintro e vb ⟨g1, rfl, hv, hgn, r1⟩
                  refine hK.out _ _ (HeldS.of_below hv) ?_
                  clear hK K2 hgn
                  replace hz := below_next hz hz.size hv
                  try (replace k1 := keeps hv k1)
                  try (replace k2 := keeps hv k2)
                  try (replace r1 := r1.up hv)
                  try (replace r2 := r2.up hv)
                  clear hv
                  refine segS_one 3 _ (by decide) rfl (by kernel_rfl) ?_
                  intro v9 K2 hv hK
                  replace hz := below_next hz hz.size hv
                  try (replace k1 := keeps hv k1)
                  try (replace k2 := keeps hv k2)
                  try (replace r1 := r1.up hv)
                  try (replace r2 := r2.up hv)
                  clear hv
                  replace hK := Lib.hid hK
                  go_simp
                  refine (hNew.out _).mono ?_
                  rintro e vb ⟨g2, rfl, hv, hgn, r2⟩
                  refine hK.out _ _ (HeldS.of_below hv) ?_
                  clear hK K2 hgn
                  replace hz := below_next hz hz.size hv
                  try (replace k1 := keeps hv k1)
                  try (replace k2 := keeps hv k2)
                  try (replace r1 := r1.up hv)
                  try (replace r2 := r2.up hv)
                  clear hv
                  refine segS_tail (by kernel_rfl) ?_
                  intro v5 hv
                  replace hz := below_next hz hz.size hv
                  try (replace k1 := keeps hv k1)
                  try (replace k2 := keeps hv k2)
                  try (replace r1 := r1.up hv)
                  try (replace r2 := r2.up hv)
                  clear hv
                  simp only [List.drop_succ_cons, List.drop_zero]
                  have hone1 := Lib.hid (one_tot (A := some ⟨g1, 0, none⟩) (n := N) (cp := N) 0 (fun _ => 0))
                  have hone2 := Lib.hid (one_tot (A := some ⟨g2, 0, none⟩) (n := N) (cp := N) 0 (fun _ => 0))
                  go_wp2_with (first
                    | (refine list_store_whole _ _ _ _ (tot (.slice (some ⟨g1, 0, none⟩) N N) 0 (fun _ => 0)) noTot 39 rfl rfl rfl rfl k1 rfl (by kernel_rfl) hone1.out ?_; intro vm hbut kr; replace hz := hbut.below hz lq14 hz.size; replace k2 := (hbut.block _ (lt_of_get k2) hne.symm).trans k2; replace r1 : Row vm g1 _ := (hbut.block _ (lt_of_get r1) (ne_typeU r1 k1 (by decide))).trans r1; replace r2 : Row vm g2 _ := (hbut.block _ (lt_of_get r2) (ne_typeU r2 k1 (by decide))).trans r2; clear hbut k1; have k1 := kr; clear kr)
                    | (refine list_store_whole _ _ _ _ (tot (.slice (some ⟨g2, 0, none⟩) N N) 0 (fun _ => 0)) noTot 39 rfl rfl rfl rfl k2 rfl (by kernel_rfl) hone2.out ?_; intro vn hbut kr; replace hz := hbut.below hz lq15 hz.size; replace k1 := (hbut.block _ (lt_of_get k1) hne).trans k1; replace r1 : Row vn g1 _ := (hbut.block _ (lt_of_get r1) (ne_typeU r1 k2 (by decide))).trans r1; replace r2 : Row vn g2 _ := (hbut.block _ (lt_of_get r2) (ne_typeU r2 k2 (by decide))).trans r2; clear hbut k2; have k2 := kr; clear kr))
                  refine calm_normal ?_
                  go_wp2
                  go_meet
                  exact ⟨q14, q15, g1, g2, rfl, rfl, hne, lq14, lq15, hz, k1, k2, r1, r2⟩
              · refine ⟨by decide, _, rfl, ?_⟩
                intro v7 K2 hv hK
                replace hz := below_next hz hz.size hv
                try (replace k1 := keeps hv k1)
                try (replace k2 := keeps hv k2)
                try (replace r1 := r1.up hv)
                try (replace r2 := r2.up hv)
                clear hv
                replace hK := Lib.hid hK
                go_simp
                have hv := (Below.refl v7.heap.size v7).alloc (Nat.le_refl _) (.cells #[.slice none 0 0, .int .i64 0, .int .u8 0, .int .u8 0, .int .u8 0, .int .u8 0, .int .u8 0, .int .u8 0, .int .u8 0, .int .u8 0, .int .u8 0, .int .u8 0, .int .u8 0, .int .u8 0, .int .u8 0, .int .u8 0, .int .u8 0, .int .u8 0] 39 (0, 0))
                refine hK.out _ _ (HeldS.of_below hv) ?_
                clear hK K2
                have k2 : (v7.alloc (.cells #[.slice none 0 0, .int .i64 0, .int .u8 0, .int .u8 0, .int .u8 0, .int .u8 0, .int .u8 0, .int .u8 0, .int .u8 0, .int .u8 0, .int .u8 0, .int .u8 0, .int .u8 0, .int .u8 0, .int .u8 0, .int .u8 0, .int .u8 0, .int .u8 0] 39 (0, 0))).heap[v7.heap.size]? = some (.cells noTot.toArray 39 (0, 0)) := alloc_at rfl
                have lq15 : wm.heap.size ≤ v7.heap.size := hz.size
                skip
                replace hz := below_next hz hz.size hv
                try (replace k1 := keeps hv k1)
                try (replace k2 := keeps hv k2)
                try (replace r1 := r1.up hv)
                try (replace r2 := r2.up hv)
                clear hv
                generalize v7.alloc (.cells #[.slice none 0 0, .int .i64 0, .int .u8 0, .int .u8 0, .int .u8 0, .int .u8 0, .int .u8 0, .int .u8 0, .int .u8 0, .int .u8 0, .int .u8 0, .int .u8 0, .int .u8 0, .int .u8 0, .int .u8 0, .int .u8 0, .int .u8 0, .int .u8 0] 39 (0, 0)) = v8 at *
                generalize v7.heap.size = q15 at *
                refine segS_more [1, 4] (by kernel_rfl) (by decide) ?_
                intro j hj
                simp only [List.mem_cons, List.not_mem_nil, or_false] at hj
                rcases hj with rfl | rfl
                · refine ⟨by decide, _, rfl, ?_⟩
                  intro v9 K2 hv hK
                  replace hz := below_next hz hz.size hv
                  try (replace k1 := keeps hv k1)
                  try (replace k2 := keeps hv k2)
                  try (replace r1 := r1.up hv)
                  try (replace r2 := r2.up hv)
                  clear hv
                  replace hK := Lib.hid hK
                  go_simp
                  refine (hNew.out _).mono ?_
                  rintro e vb ⟨g1, rfl, hv, hgn, r1⟩
                  refine hK.out _ _ (HeldS.of_below hv) ?_
                  clear hK K2 hgn
                  replace hz := below_next hz hz.size hv
                  try (replace k1 := keeps hv k1)
                  try (replace k2 := keeps hv k2)
                  try (replace r1 := r1.up hv)
                  try (replace r2 := r2.up hv)
                  clear hv
                  refine segS_more [3, 4] (by kernel_rfl) (by decide) ?_
                  intro j hj
                  simp only [List.mem_cons, List.not_mem_nil, or_false] at hj
                  rcases hj with rfl | rfl
                  · refine ⟨by decide, _, rfl, ?_⟩
                    intro v9 K2 hv hK
                    replace hz := below_next hz hz.size hv
                    try (replace k1 := keeps hv k1)
                    try (replace k2 := keeps hv k2)
                    try (replace r1 := r1.up hv)
                    try (replace r2 := r2.up hv)
                    clear hv
                    replace hK := Lib.hid hK
                    go_simp
                    refine (hNew.out _).mono ?_
                    rintro e vb ⟨g2, rfl, hv, hgn, r2⟩
                    refine hK.out _ _ (HeldS.of_below hv) ?_
                    clear hK K2 hgn
                    replace hz := below_next hz hz.size hv
                    try (replace k1 := keeps hv k1)
                    try (replace k2 := keeps hv k2)
                    try (replace r1 := r1.up hv)
                    try (replace r2 := r2.up hv)
                    clear hv
                    refine segS_one 4 _ (by decide) rfl (by kernel_rfl) ?_
                    intro v7 K2 hv hK
                    replace hz := below_next hz hz.size hv
                    try (replace k1 := keeps hv k1)
                    try (replace k2 := keeps hv k2)
                    try (replace r1 := r1.up hv)
                    try (replace r2 := r2.up hv)
                    clear hv
                    replace hK := Lib.hid hK
                    go_simp
                    have hv := (Below.refl v7.heap.size v7).alloc (Nat.le_refl _) (.cells #[.slice none 0 0, .int .i64 0, .int .u8 0, .int .u8 0, .int .u8 0, .int .u8 0, .int .u8 0, .int .u8 0, .int .u8 0, .int .u8 0, .int .u8 0, .int .u8 0, .int .u8 0, .int .u8 0, .int .u8 0, .int .u8 0, .int .u8 0, .int .u8 0] 39 (0, 0))
                    refine hK.out _ _ (HeldS.of_below hv) ?_
                    clear hK K2
                    have k1 : (v7.alloc (.cells #[.slice none 0 0, .int .i64 0, .int .u8 0, .int .u8 0, .int .u8 0, .int .u8 0, .int .u8 0, .int .u8 0, .int .u8 0, .int .u8 0, .int .u8 0, .int .u8 0, .int .u8 0, .int .u8 0, .int .u8 0, .int .u8 0, .int .u8 0, .int .u8 0] 39 (0, 0))).heap[v7.heap.size]? = some (.cells noTot.toArray 39 (0, 0)) := alloc_at rfl
                    have lq14 : wm.heap.size ≤ v7.heap.size := hz.size
                    have hne : v7.heap.size ≠ q15 := (Nat.ne_of_lt (lt_of_get k2)).symm
                    replace hz := below_next hz hz.size hv
                    try (replace k1 := keeps hv k1)
                    try (replace k2 := keeps hv k2)
                    try (replace r1 := r1.up hv)
                    try (replace r2 := r2.up hv)
                    clear hv
                    generalize v7.alloc (.cells #[.slice none 0 0, .int .i64 0, .int .u8 0, .int .u8 0, .int .u8 0, .int .u8 0, .int .u8 0, .int .u8 0, .int .u8 0, .int .u8 0, .int .u8 0, .int .u8 0, .int .u8 0, .int .u8 0, .int .u8 0, .int .u8 0, .int .u8 0, .int .u8 0] 39 (0, 0)) = v8 at *
                    generalize v7.heap.size = q14 at *
                    refine segS_tail (by kernel_rfl) ?_
                    intro v5 hv
                    replace hz := below_next hz hz.size hv
                    try (replace k1 := keeps hv k1)
                    try (replace k2 := keeps hv k2)
                    try (replace r1 := r1.up hv)
                    try (replace r2 := r2.up hv)
                    clear hv
                    simp only [List.drop_succ_cons, List.drop_zero]
                    have hone1 := Lib.hid (one_tot (A := some ⟨g1, 0, none⟩) (n := N) (cp := N) 0 (fun _ => 0))
                    have hone2 := Lib.hid (one_tot (A := some ⟨g2, 0, none⟩) (n := N) (cp := N) 0 (fun _ => 0))
                    go_wp2_with (first
                      | (refine list_store_whole _ _ _ _ (tot (.slice (some ⟨g1, 0, none⟩) N N) 0 (fun _ => 0)) noTot 39 rfl rfl rfl rfl k1 rfl (by kernel_rfl) hone1.out ?_; intro vm hbut kr; replace hz := hbut.below hz lq14 hz.size; replace k2 := (hbut.block _ (lt_of_get k2) hne.symm).trans k2; replace r1 : Row vm g1 _ := (hbut.block _ (lt_of_get r1) (ne_typeU r1 k1 (by decide))).trans r1; replace r2 : Row vm g2 _ := (hbut.block _ (lt_of_get r2) (ne_typeU r2 k1 (by decide))).trans r2; clear hbut k1; have k1 := kr; clear kr)
                      | (refine list_store_whole _ _ _ _ (tot (.slice (some ⟨g2, 0, none⟩) N N) 0 (fun _ => 0)) noTot 39 rfl rfl rfl rfl k2 rfl (by kernel_rfl) hone2.out ?_; intro vn hbut kr; replace hz := hbut.below hz lq15 hz.size; replace k1 := (hbut.block _ (lt_of_get k1) hne).trans k1; replace r1 : Row vn g1 _ := (hbut.block _ (lt_of_get r1) (ne_typeU r1 k2 (by decide))).trans r1; replace r2 : Row vn g2 _ := (hbut.block _ (lt_of_get r2) (ne_typeU r2 k2 (by decide))).trans r2; clear hbut k2; have k2 := kr; clear kr))
                    refine calm_normal ?_
                    go_wp2
                    go_meet
                    exact ⟨q14, q15, g1, g2, rfl, rfl, hne, lq14, lq15, hz, k1, k2, r1, r2⟩
                  · refine ⟨by decide, _, rfl, ?_⟩
                    intro v7 K2 hv hK
                    replace hz := below_next hz hz.size hv
                    try (replace k1 := keeps hv k1)
                    try (replace k2 := keeps hv k2)
                    try (replace r1 := r1.up hv)
                    try (replace r2 := r2.up hv)
                    clear hv
                    replace hK := Lib.hid hK
                    go_simp
                    have hv := (Below.refl v7.heap.size v7).alloc (Nat.le_refl _) (.cells #[.slice none 0 0, .int .i64 0, .int .u8 0, .int .u8 0, .int .u8 0, .int .u8 0, .int .u8 0, .int .u8 0, .int .u8 0, .int .u8 0, .int .u8 0, .int .u8 0, .int .u8 0, .int .u8 0, .int .u8 0, .int .u8 0, .int .u8 0, .int .u8 0] 39 (0, 0))
                    refine hK.out _ _ (HeldS.of_below hv) ?_
                    clear hK K2
                    have k1 : (v7.alloc (.cells #[.slice none 0 0, .int .i64 0, .int .u8 0, .int .u8 0, .int .u8 0, .int .u8 0, .int .u8 0, .int .u8 0, .int .u8 0, .int .u8 0, .int .u8 0, .int .u8 0, .int .u8 0, .int .u8 0, .int .u8 0, .int .u8 0, .int .u8 0, .int .u8 0] 39 (0, 0))).heap[v7.heap.size]? = some (.cells noTot.toArray 39 (0, 0)) := alloc_at rfl
                    have lq14 : wm.heap.size ≤ v7.heap.size := hz.size
                    have hne : v7.heap.size ≠ q15 := (Nat.ne_of_lt (lt_of_get k2)).symm
                    replace hz := below_next hz hz.size hv
                    try (replace k1 := keeps hv k1)
                    try (replace k2 := keeps hv k2)
                    try (replace r1 := r1.up hv)
                    try (replace r2 := r2.up hv)
                    clear hv
                    generalize v7.alloc (.cells #[.slice none 0 0, .int .i64 0, .int .u8 0, .int .u8 0, .int .u8 0, .int .u8 0, .int .u8 0, .int .u8 0, .int .u8 0, .int .u8 0, .int .u8 0, .int .u8 0, .int .u8 0, .int .u8 0, .int .u8 0, .int .u8 0, .int .u8 0, .int .u8 0] 39 (0, 0)) = v8 at *
                    generalize v7.heap.size = q14 at *
                    refine segS_one 3 _ (by decide) rfl (by kernel_rfl) ?_
                    intro v9 K2 hv hK
                    replace hz := below_next hz hz.size hv
                    try (replace k1 := keeps hv k1)
                    try (replace k2 := keeps hv k2)
                    try (replace r1 := r1.up hv)
                    try (replace r2 := r2.up hv)
                    clear hv
                    replace hK := Lib.hid hK
                    go_simp
                    refine (hNew.out _).mono ?_
                    rintro e vb ⟨g2, rfl, hv, hgn, r2⟩
                    refine hK.out _ _ (HeldS.of_below hv) ?_
                    clear hK K2 hgn
                    replace hz := below_next hz hz.size hv
                    try (replace k1 := keeps hv k1)
                    try (replace k2 := keeps hv k2)
                    try (replace r1 := r1.up hv)
                    try (replace r2 := r2.up hv)
                    clear hv
                    refine segS_tail (by kernel_rfl) ?_
                    intro v5 hv
                    replace hz := below_next hz hz.size hv
                    try (replace k1 := keeps hv k1)
                    try (replace k2 := keeps hv k2)
                    try (replace r1 := r1.up hv)
                    try (replace r2 := r2.up hv)
                    clear hv
                    simp only [List.drop_succ_cons, List.drop_zero]
                    have hone1 := Lib.hid (one_tot (A := some ⟨g1, 0, none⟩) (n := N) (cp := N) 0 (fun _ => 0))
                    have hone2 := Lib.hid (one_tot (A := some ⟨g2, 0, none⟩) (n := N) (cp := N) 0 (fun _ => 0))
                    go_wp2_with (first
                      | (refine list_store_whole _ _ _ _ (tot (.slice (some ⟨g1, 0, none⟩) N N) 0 (fun _ => 0)) noTot 39 rfl rfl rfl rfl k1 rfl (by kernel_rfl) hone1.out ?_; intro vm hbut kr; replace hz := hbut.below hz lq14 hz.size; replace k2 := (hbut.block _ (lt_of_get k2) hne.symm).trans k2; replace r1 : Row vm g1 _ := (hbut.block _ (lt_of_get r1) (ne_typeU r1 k1 (by decide))).trans r1; replace r2 : Row vm g2 _ := (hbut.block _ (lt_of_get r2) (ne_typeU r2 k1 (by decide))).trans r2; clear hbut k1; have k1 := kr; clear kr)
                      | (refine list_store_whole _ _ _ _ (tot (.slice (some ⟨g2, 0, none⟩) N N) 0 (fun _ => 0)) noTot 39 rfl rfl rfl rfl k2 rfl (by kernel_rfl) hone2.out ?_; intro vn hbut kr; replace hz := hbut.below hz lq15 hz.size; replace k1 := (hbut.block _ (lt_of_get k1) hne).trans k1; replace r1 : Row vn g1 _ := (hbut.block _ (lt_of_get r1) (ne_typeU r1 k2 (by decide))).trans r1; replace r2 : Row vn g2 _ := (hbut.block _ (lt_of_get r2) (ne_typeU r2 k2 (by decide))).trans r2; clear hbut k2; have k2 := kr; clear kr))
                    refine calm_normal ?_
                    go_wp2
                    go_meet
                    exact ⟨q14, q15, g1, g2, rfl, rfl, hne, lq14, lq15, hz, k1, k2, r1, r2⟩
                · refine ⟨by decide, _, rfl, ?_⟩
                  intro v7 K2 hv hK
                  replace hz := below_next hz hz.size hv
                  try (replace k1 := keeps hv k1)
                  try (replace k2 := keeps hv k2)
                  try (replace r1 := r1.up hv)
                  try (replace r2 := r2.up hv)
                  clear hv
                  replace hK := Lib.hid hK
                  go_simp
                  have hv := (Below.refl v7.heap.size v7).alloc (Nat.le_refl _) (.cells #[.slice none 0 0, .int .i64 0, .int .u8 0, .int .u8 0, .int .u8 0, .int .u8 0, .int .u8 0, .int .u8 0, .int .u8 0, .int .u8 0, .int .u8 0, .int .u8 0, .int .u8 0, .int .u8 0, .int .u8 0, .int .u8 0, .int .u8 0, .int .u8 0] 39 (0, 0))
                  refine hK.out _ _ (HeldS.of_below hv) ?_
                  clear hK K2
                  have k1 : (v7.alloc (.cells #[.slice none 0 0, .int .i64 0, .int .u8 0, .int .u8 0, .int .u8 0, .int .u8 0, .int .u8 0, .int .u8 0, .int .u8 0, .int .u8 0, .int .u8 0, .int .u8 0, .int .u8 0, .int .u8 0, .int .u8 0, .int .u8 0, .int .u8 0, .int .u8 0] 39 (0, 0))).heap[v7.heap.size]? = some (.cells noTot.toArray 39 (0, 0)) := alloc_at rfl
                  have lq14 : wm.heap.size ≤ v7.heap.size := hz.size
                  have hne : v7.heap.size ≠ q15 := (Nat.ne_of_lt (lt_of_get k2)).symm
                  replace hz := below_next hz hz.size hv
                  try (replace k1 := keeps hv k1)
                  try (replace k2 := keeps hv k2)
                  try (replace r1 := r1.up hv)
                  try (replace r2 := r2.up hv)
                  clear hv
                  generalize v7.alloc (.cells #[.slice none 0 0, .int .i64 0, .int .u8 0, .int .u8 0, .int .u8 0, .int .u8 0, .int .u8 0, .int .u8 0, .int .u8 0, .int .u8 0, .int .u8 0, .int .u8 0, .int .u8 0, .int .u8 0, .int .u8 0, .int .u8 0, .int .u8 0, .int .u8 0] 39 (0, 0)) = v8 at *
                  generalize v7.heap.size = q14 at *
                  refine segS_one 1 _ (by decide) rfl (by kernel_rfl) ?_
                  intro v9 K2 hv hK
                  replace hz := below_next hz hz.size hv
                  try (replace k1 := keeps hv k1)
                  try (replace k2 := keeps hv k2)
                  try (replace r1 := r1.up hv)
                  try (replace r2 := r2.up hv)
                  clear hv
                  replace hK := Lib.hid hK
                  go_simp
                  refine (hNew.out _).mono ?_
                  rintro e vb ⟨g1, rfl, hv, hgn, r1⟩
                  refine hK.out _ _ (HeldS.of_below hv) ?_
                  clear hK K2 hgn
                  replace hz := below_next hz hz.size hv
                  try (replace k1 := keeps hv k1)
                  try (replace k2 := keeps hv k2)
                  try (replace r1 := r1.up hv)
                  try (replace r2 := r2.up hv)
                  clear hv
                  refine segS_one 3 _ (by decide) rfl (by kernel_rfl) ?_
                  intro v9 K2 hv hK
                  replace hz := below_next hz hz.size hv
                  try (replace k1 := keeps hv k1)
                  try (replace k2 := keeps hv k2)
                  try (replace r1 := r1.up hv)
                  try (replace r2 := r2.up hv)
                  clear hv
                  replace hK := Lib.hid hK
                  go_simp
                  refine (hNew.out _).mono ?_
                  rintro e vb ⟨g2, rfl, hv, hgn, r2⟩
                  refine hK.out _ _ (HeldS.of_below hv) ?_
                  clear hK K2 hgn
                  replace hz := below_next hz hz.size hv
                  try (replace k1 := keeps hv k1)
                  try (replace k2 := keeps hv k2)
                  try (replace r1 := r1.up hv)
                  try (replace r2 := r2.up hv)
                  clear hv
                  refine segS_tail (by kernel_rfl) ?_
                  intro v5 hv
                  replace hz := below_next hz hz.size hv
                  try (replace k1 := keeps hv k1)
                  try (replace k2 := keeps hv k2)
                  try (replace r1 := r1.up hv)
                  try (replace r2 := r2.up hv)
                  clear hv
                  simp only [List.drop_succ_cons, List.drop_zero]
                  have hone1 := Lib.hid (one_tot (A := some ⟨g1, 0, none⟩) (n := N) (cp := N) 0 (fun _ => 0))
                  have hone2 := Lib.hid (one_tot (A := some ⟨g2, 0, none⟩) (n := N) (cp := N) 0 (fun _ => 0))
                  go_wp2_with (first
                    | (refine list_store_whole _ _ _ _ (tot (.slice (some ⟨g1, 0, none⟩) N N) 0 (fun _ => 0)) noTot 39 rfl rfl rfl rfl k1 rfl (by kernel_rfl) hone1.out ?_; intro vm hbut kr; replace hz := hbut.below hz lq14 hz.size; replace k2 := (hbut.block _ (lt_of_get k2) hne.symm).trans k2; replace r1 : Row vm g1 _ := (hbut.block _ (lt_of_get r1) (ne_typeU r1 k1 (by decide))).trans r1; replace r2 : Row vm g2 _ := (hbut.block _ (lt_of_get r2) (ne_typeU r2 k1 (by decide))).trans r2; clear hbut k1; have k1 := kr; clear kr)
                    | (refine list_store_whole _ _ _ _ (tot (.slice (some ⟨g2, 0, none⟩) N N) 0 (fun _ => 0)) noTot 39 rfl rfl rfl rfl k2 rfl (by kernel_rfl) hone2.out ?_; intro vn hbut kr; replace hz := hbut.below hz lq15 hz.size; replace k1 := (hbut.block _ (lt_of_get k1) hne).trans k1; replace r1 : Row vn g1 _ := (hbut.block _ (lt_of_get r1) (ne_typeU r1 k2 (by decide))).trans r1; replace r2 : Row vn g2 _ := (hbut.block _ (lt_of_get r2) (ne_typeU r2 k2 (by decide))).trans r2; clear hbut k2; have k2 := kr; clear kr))
                  refine calm_normal ?_
                  go_wp2
                  go_meet
                  exact ⟨q14, q15, g1, g2, rfl, rfl, hne, lq14, lq15, hz, k1, k2, r1, r2⟩
    case rest =>
      as_aux_lemma =>
      obtain ⟨q14, q15, g1, g2, rfl, rfl, hne, l14, l15, hv, k1, k2, r1, r2⟩ := hcut
      have hz := hv
      have kcz := keeps hv kc
      clear hv
      go_wp2_with (first
        | (refine list_load_mid _ _ _ 0 _ _ rfl rfl rfl (At0.of_block kcz) Tryd.underlying31 rfl (by kernel_rfl) ?_))
      refine call_then (hO.out _) ?_
      intro w5 hv
      replace hz := below_next hz hz.size hv
      try (replace k1 := keeps hv k1)
      try (replace k2 := keeps hv k2)
      try (replace r1 := r1.up hv)
      try (replace r2 := r2.up hv)
      clear hv
      clear kcz
      go_upto_region 11 with (fail)
      have lgw : wm.heap.size ≤ w5.heap.size := hz.size
      refine name_wp (fun w6 => Un wm q14 q15 w5.heap.size N 0 0 (fun _ => 0) (fun _ => 0) (List.replicate N 0) (List.replicate N 0) (List.replicate N 0) g1 g2 w6)
        ⟨hz.alloc hz.size _, alloc_keeps k1, alloc_keeps k2, r1.alloc _, r2.alloc _, wrow_new w5 N⟩ ?_
      clear hz k1 k2 r1 r2
      obtain ⟨gw, hgwe⟩ : ∃ gw, w5.heap.size = gw := ⟨_, rfl⟩
      rw [hgwe] at lgw ⊢
      clear hgwe
      rintro w6 hU
      have hmx1 : (x.mostN : Int) ≤ 4294967295 := by have := most_le h.out.good; omega
      have hmx0 : 0 ≤ (x.mostN : Int) := by omega
      obtain ⟨mx, hmxe⟩ : ∃ mx : Int, (x.mostN : Int) = mx := ⟨_, rfl⟩
      rw [hmxe] at hmx0 hmx1
      replace hmxe := Lib.hid hmxe
      obtain ⟨SK, hSK0, hSKs, hSKl, hSKi⟩ : ∃ SK : Nat → List Int, SK 0 = List.replicate N 0 ∧ (∀ k, SK (k + 1) = List.zipWith (add x.f) (SK k) (outL x.f N (ys k))) ∧ (∀ k, (SK k).length = N) ∧ (∀ k, InF x.f (SK k)) := ⟨fun k => sumK x.f N (fun k => outL x.f N (ys k)) k, rfl, fun _ => rfl, sumK_len (fun k => outL_len _ _ _), sumK_in hff N _⟩
      obtain ⟨CK, hCK0, hCKs, hCKl⟩ : ∃ CK : Nat → Nat → Nat, CK 0 = (fun _ => 0) ∧ (∀ k, CK (k + 1) = xorF (CK k) (chk (rs k).ns)) ∧ (∀ k, Lim8 (CK k)) := ⟨chkK (fun k => (rs k).ns), rfl, fun _ => rfl, chkK_lim _⟩
      replace hSK0 := Lib.hid hSK0
      replace hSKs := Lib.hid hSKs
      replace hSKl := Lib.hid hSKl
      replace hSKi := Lib.hid hSKi
      replace hCK0 := Lib.hid hCK0
      replace hCKs := Lib.hid hCKs
      replace hCKl := Lib.hid hCKl
      clear hmk hNew
      have hme := make_elems N (by omega)
      go_wp2
      go_loopw [63] (fun i wr => ∃ (k : Nat) (Sb Wz : List Int) (ga gb : Nat), k ≤ n ∧ i = .int .i64 (k : Int) ∧ Un wm q14 q15 gw N (k : Int) (k : Int) (CK k) (CK k) (SK k) Sb Wz ga gb wr ∧ Cut x.f N (SK k) Sb Wz mx k) (fun i _ => n - (intOf i).toNat)
      case atStart => exact ⟨0, _, _, g1, g2, Nat.zero_le _, rfl, by rw [hCK0.out, hSK0.out]; exact hU, by rw [hSK0.out]; exact Cut.start hff N mx⟩
      case round =>
        clear hU
        obtain ⟨k, Sb, Wz, ga, gb, hk, rfl, hU, hCut⟩ := hrel
        replace hCut := Lib.hid hCut
        have hbw := below_next hb hb.size hU.b9
        by_cases hlt : k < n
        · as_aux_lemma =>
          have i1 : (k : Int) < (n : Int) := by omega
          obtain ⟨ba, oa, rfl, hrep⟩ := (hR.out.up hbw) k hlt
          have hPk := hP.out k
          have hCs := hCKs.out k
          have hSs := hSKs.out k
          have h17 := Rp.len hPk.id
          obtain ⟨r, hrr⟩ : ∃ r, rs k = r := ⟨_, rfl⟩
          obtain ⟨y, hyy⟩ : ∃ y, ys k = y := ⟨_, rfl⟩
          rw [hrr] at hrep hPk h17 hCs
          rw [hyy] at hPk hSs
          replace hCs := Lib.hid hCs
          replace hSs := Lib.hid hSs
          have hone := Lib.hid r.one
          have hp18 : wm.heap.size ≤ wr.heap.size := hU.b9.size
          go_upto_region 14 with (first
            | (refine list_load_mid _ _ _ (oa + k * 17) _ _ rfl rfl rfl hrep Tryd.underlying56 rfl (by rw [h17]; kernel_rfl) ?_)
            | (refine list_store_whole _ _ _ _ r.cells nulRp 56 rfl rfl rfl rfl (alloc_at rfl) (by rw [h17]; rfl) (by rw [h17]; kernel_rfl) hone.out ?_; intro w4 hbut kp))
          have hv : Below wr.heap.size wr w4 := hbut.below ((Below.refl _ _).alloc (Nat.le_refl _) _) (Nat.le_refl _) (by simp)
          replace hU := hU.up hv
          replace hbw := below_next hbw hbw.size hv
          clear hbut hv hrep hone
          obtain ⟨p18, hp18e⟩ : ∃ p18, wr.heap.size = p18 := ⟨_, rfl⟩
          rw [hp18e] at kp hp18 ⊢
          clear hp18e
          obtain ⟨bm0, hbm0⟩ : ∃ b, decide (0 < nm) = b := ⟨_, rfl⟩
          have hbm1 : decide ((nm : Int) > 0) = bm0 := by rw [← hbm0]; exact decide_eq_decide.2 (by omega)
          have hbm2 : decide ((0 : Int) < (nm : Int)) = bm0 := hbm1
          replace hU := Lib.hid hU
          replace kp := Lib.hid kp
          go_upto_region 15 with (fail)
          go_cut [70] (fun v w' => v = .bool bm0 ∧ w' = w4)
          case first =>
            go_wp2
            go_meet
            exact ⟨rfl, rfl⟩
          case rest =>
          obtain ⟨rfl, hwc⟩ := hcut
          rw [hwc]
          clear hwc
          go_upto_if 70 with (fail)
          go_cut [19] (fun v w' => ∃ m : Wl, v = .slice m.A m.xs.length m.c ∧ WlOK w' m ∧ w' = w4)
          case first =>
            as_aux_lemma =>
              cases bm0 with
              | false =>
                go_wp2
                go_meet
                exact ⟨⟨none, [], 0⟩, rfl, ⟨fun k hk => absurd hk (Nat.not_lt_zero _), fun x hx => (by cases hx), Nat.zero_le _⟩, rfl⟩
              | true =>
                have hnm0 : 0 < nm := of_decide_eq_true hbm0
                obtain ⟨j, hj⟩ : ∃ j, k % nm = j := ⟨_, rfl⟩
                have hjn : j < nm := by rw [← hj]; exact Nat.mod_lt _ hnm0
                have hjt : (k : Int).tmod (nm : Int) = (j : Int) := by rw [← hj]; rfl
                have hjm : (k : Int) % (nm : Int) = (j : Int) := by rw [← hj]; rfl
                have hnz : (nm : Int) ≠ 0 := by omega
                have j0 : (0 : Int) ≤ (j : Int) := by omega
                have j1 : (j : Int) < (nm : Int) := by omega
                have zj : IntKind.i64.wrap (j : Int) = (j : Int) := wrap_i rfl (by unfold maxLen at hmm; omega)
                obtain ⟨bm, om, rfl, hc⟩ := (hM.out.up hbw) j hjn
                have hmo := Lib.hid ((hMo.out j).up hbw)
                clear hj hnm0 hbm0 hbm1 hbm2
                go_wp2
                go_meet
                exact ⟨ms j, rfl, hmo.out, rfl⟩
          case rest =>
            as_aux_lemma =>
            obtain ⟨m, rfl, hmo, hwc⟩ := hcut
            rw [hwc] at hmo ⊢
            clear hwc hbm0 hbm1 hbm2
            obtain ⟨mn, hmn⟩ : ∃ mn, m.xs.length = mn := ⟨_, rfl⟩
            rw [hmn]
            by_cases h50 : mn ≤ 50
            · have m0 : decide ((mn : Int) > 50) = false := by simp; omega
              have hMe := Lib.hid (fun w hA => (measure_fits x h.out.good m.xs m.A mn m.c hmn (by omega) hmo.ok w hA : Calls Tryd.prog 22 #[.agg (ccl x).toArray, .slice m.A mn m.c] w _))
              unfold MeasFits at hMe
              replace hmo := Lib.hid hmo.at'
              clear hmn
              go_upto_region 19 with (fail)
              refine segS_start (gb := fun _ => True) 10 (by kernel_rfl) (by decide) ?_
              intro v0 hv
              replace hU := Lib.hid (hU.out.up hv)
              replace kp := Lib.hid (keeps hv kp.out)
              try replace hmo := Lib.hid (words_upU hmo.out hv)
              clear hv
              have kcv := At0.of_block (keeps hU.out.b9 kc)
              refine segS_batch 7 [0, 1, 2] (by kernel_rfl) rfl (by kernel_rfl) (by kernel_rfl) (by kernel_rfl) ?_
              apply Exists.intro
              refine ⟨fun ι _ φ hφ => ?_, fun v1 hv => ?_⟩
              · repeat (refine pick_step rfl ?_; first
                  | (refine quiet_load_mid _ _ _ 0 _ _ rfl rfl rfl (mid_familyT hφ kcv trivial) Tryd.underlying31 rfl (by kernel_rfl) ?_; simp only [Act.put, List.setIfInBounds_toArray, List.set_cons_succ, List.set_cons_zero])
                  | go_big_quiet_step (fail))
                exact pick_end
              replace hU := Lib.hid (hU.out.up hv)
              replace kp := Lib.hid (keeps hv kp.out)
              try replace hmo := Lib.hid (words_upU hmo.out hv)
              clear hv
              clear kcv
              refine segS_one 3 _ (by decide) rfl (by kernel_rfl) ?_
              intro v2 K2 hv hK
              replace hU := Lib.hid (hU.out.up hv)
              replace kp := Lib.hid (keeps hv kp.out)
              try replace hmo := Lib.hid (words_upU hmo.out hv)
              clear hv
              replace hK := Lib.hid hK
              go_simp
              refine (hMe.out _ hmo.out).mono ?_
              rintro e v3 ⟨A2, zs, c2, rfl, hv, hzo, hzl, hzf, hza⟩
              refine hK.out _ _ (HeldS.of_below hv) ?_
              clear hK K2 hMe
              replace hU := Lib.hid (hU.out.up hv)
              replace kp := Lib.hid (keeps hv kp.out)
              try replace hmo := Lib.hid (words_upU hmo.out hv)
              clear hv
              have hEn := Lib.hid (fun w hA => (enc_ok x zs A2 zs.length c2 h.out.good hzl rfl (by rw [hzl]; exact measN_le (by rw [hNN.out]; exact hN4)) hzo hzf w hA : Calls Tryd.prog 21 #[.agg (ccl x).toArray, .slice A2 zs.length c2] w _))
              unfold EncOut at hEn
              have hEl := enc_len h.out.good hzl
              have hEi := Lib.hid (bits_in (f := x.f) (enc_bitsB h.out.good hzo hzf))
              have hVf := trunc_fits h.out.good hzo hzl hzf
              obtain ⟨EL, hEL⟩ : ∃ EL, encL x zs = EL := ⟨_, rfl⟩
              rw [hEL] at hEn hEl hEi hVf
              have hVl := truncL_length x EL
              have hVi := trunc_in (x := x) EL
              obtain ⟨V, hV⟩ : ∃ V, truncL x EL = V := ⟨_, rfl⟩
              rw [hV] at hVf hVl hVi
              rw [hNN.out] at hVl hVf
              rw [hmxe.out] at hVf
              obtain ⟨zn, hzn⟩ : ∃ zn, zs.length = zn := ⟨_, rfl⟩
              rw [hzn] at hEn ⊢
              obtain ⟨il, hil⟩ : ∃ il, EL.length = il := ⟨_, rfl⟩
              rw [hil] at hEn hEl
              replace hza := Lib.hid hza
              clear hEL hzo hzf hzl hzn
              refine segS_one 4 _ (by decide) rfl (by kernel_rfl) ?_
              intro v2 K2 hv hK
              replace hza := Lib.hid (words_upU hza.out hv)
              replace hU := Lib.hid (hU.out.up hv)
              replace kp := Lib.hid (keeps hv kp.out)
              try replace hmo := Lib.hid (words_upU hmo.out hv)
              clear hv
              replace hK := Lib.hid hK
              go_simp
              refine (hEn.out _ hza.out).mono ?_
              rintro e v3 ⟨A3, c3, rfl, hv, hea, hec, -⟩
              refine hK.out _ _ (HeldS.of_below hv) ?_
              clear hK K2 hEn hza
              replace hU := Lib.hid (hU.out.up hv)
              replace kp := Lib.hid (keeps hv kp.out)
              try replace hmo := Lib.hid (words_upU hmo.out hv)
              clear hv
              have hTr := Lib.hid (fun w hA => (trunc_ok x h.out.good EL A3 il c3 hil hEl hec (InF.okU hff hEi.out) w hA : Calls Tryd.prog 23 #[.agg (ccl x).toArray, .slice A3 il c3] w _))
              rw [hV] at hTr
              unfold TrOut at hTr
              rw [hVl] at hTr
              clear hEl hEi hV hil hec hmo
              replace hVl := Lib.hid hVl
              replace hVf := Lib.hid hVf
              replace hVi := Lib.hid hVi
              refine segS_batch 0 [5, 6, 7, 8, 9] (by kernel_rfl) rfl (by kernel_rfl) (by kernel_rfl) (by kernel_rfl) ?_
              apply Exists.intro
              refine ⟨fun ι _ φ hφ => ?_, fun v1 hv => ?_⟩
              · repeat (refine pick_step rfl ?_; go_big_quiet_step (fail))
                exact pick_end
              replace hea := hea.up hv
              replace hU := Lib.hid (hU.out.up hv)
              replace kp := Lib.hid (keeps hv kp.out)
              try replace hmo := Lib.hid (words_upU hmo.out hv)
              clear hv
              refine segS_done rfl (by kernel_rfl) ?_
              intro v5 hv
              replace hea := hea.up hv
              replace hU := Lib.hid (hU.out.up hv)
              replace kp := Lib.hid (keeps hv kp.out)
              try replace hmo := Lib.hid (words_upU hmo.out hv)
              clear hv
              have kcv := At0.of_block (keeps hU.out.b9 kc)
              go_wp2_with (first | (refine list_load_mid _ _ _ 0 _ _ rfl rfl rfl kcv Tryd.underlying31 rfl (by kernel_rfl) ?_))
              refine (hTr.out _ hea).mono ?_
              rintro e v7 ⟨gv, rfl, hv, hgv, hrv⟩
              clear hTr hea hgv kcv
              replace hv := Lib.hid hv
              have hU7 := hU.out.up hv.out
              obtain ⟨bo, oo, rfl, hob, hro⟩ := (hOu.up hU7.b9) k hlt
              replace hU := Lib.hid hU7
              replace kp := Lib.hid (keeps hv.out kp.out)
              clear hv hU7
              replace hro : Row v7 (gs k) (outL x.f N (ys k)) := hro
              rw [hyy] at hro
              obtain ⟨O, hOe⟩ : ∃ O, outL x.f N y = O := ⟨_, rfl⟩
              have hOl : O.length = N := by rw [← hOe]; exact outL_len _ _ _
              have hOi : InF x.f O := by rw [← hOe]; exact outL_in hff N y
              rw [hOe] at hro hSs
              replace hOe := Lib.hid hOe
              obtain ⟨gy, hgy⟩ : ∃ gy, gs k = gy := ⟨_, rfl⟩
              rw [hgy] at hob hro
              replace hgy := Lib.hid hgy
              have fb := fb_of hff
              have hSv := fun w hA hB => fsubvec_any x.f (sub x.f) V O (some ⟨gv, 0, none⟩) (some ⟨gy, 0, none⟩) N N (InF.okU hff hVi.out) (InF.okU hff hOi) (by rw [hVl.out]; exact hN4) (hVl.out.trans hOl.symm) fb.hval fb.hsub w hA hB
              rw [hVl.out, hOl] at hSv
              replace hSv := Lib.hid hSv
              have hRl : (List.zipWith (sub x.f) V O).length = N := by rw [List.length_zipWith, hVl.out, hOl, Nat.min_self]
              have hRi : InF x.f (List.zipWith (sub x.f) V O) := zip_in (fun a b => sub_in hff a b) _ _
              obtain ⟨R, hRe⟩ : ∃ R, List.zipWith (sub x.f) V O = R := ⟨_, rfl⟩
              rw [hRe] at hSv hRl hRi
              obtain ⟨W2, hW2⟩ : ∃ W2, List.zipWith (fun a b => a + b) Wz V = W2 := ⟨_, rfl⟩
              have hW2l : W2.length = N := by rw [← hW2, List.length_zipWith, hCut.out.lW, hVl.out, Nat.min_self]
              have hW2a : ∀ i, i < N → W2.getD i 0 = Wz.getD i 0 + V.getD i 0 := fun i hi => by rw [← hW2]; exact zipAt hCut.out.lW hVl.out hi
              have hk12 : ((k + 1 : Nat) : Int) * mx < 18446744069414584321 := by
                have h1 : ((k + 1 : Nat) : Int) * mx ≤ 12 * mx := Int.mul_le_mul_of_nonneg_right (by omega) hmx0
                omega
              have hCut2 := Lib.hid (hCut.out.step hff (hSKl.out k) (hSKi.out k) hOl hOi hVl.out hVf.out hk12 hW2l hW2a)
              rw [hRe, ← hSs.out] at hCut2
              have hat := hCut.out.at'
              have hmk : (k : Int) * mx ≤ 12 * 4294967295 := by
                have h1 : (k : Int) * mx ≤ 12 * mx := Int.mul_le_mul_of_nonneg_right (by omega) hmx0
                omega
              replace hOl := Lib.hid hOl
              replace hOi := Lib.hid hOi
              replace hRl := Lib.hid hRl
              replace hRi := Lib.hid hRi
              replace hRe := Lib.hid hRe
              replace hW2 := Lib.hid hW2
              replace hW2l := Lib.hid hW2l
              replace hW2a := Lib.hid hW2a
              replace hat := Lib.hid hat
              replace hk12 := Lib.hid hk12
              replace hmk := Lib.hid hmk
              clear fb
              go_wp2_with fail
              refine (hSv.out _ hrv.elems hro.elems).mono ?_
              rintro e v8 ⟨gr, rfl, hv, hgr, hrr8⟩
              replace hU := Lib.hid (hU.out.up hv)
              replace kp := Lib.hid (keeps hv kp.out)
              replace hrv := hrv.up hv
              clear hv hgr hSv hob hro
              go_wp2
              go_loopw [117] (fun i wr => ∃ (j : Nat) (Wc : List Int), j ≤ N ∧ i = .int .i64 (j : Int) ∧ Un wm q14 q15 gw N (k : Int) (k : Int) (CK k) (CK k) (SK k) Sb Wc ga gb wr ∧ PartL N j W2 Wz Wc ∧ Row wr gv V ∧ Row wr gr R ∧ wr.heap[p18]? = some (.cells r.cells.toArray 56 (0, 0))) (fun i _ => N - (intOf i).toNat)
              case atStart => exact ⟨0, Wz, Nat.zero_le _, rfl, hU.out, PartL.start hCut.out.lW, hrv, hrr8, kp.out⟩
              case round =>
                clear hU hrv hrr8 kp
                obtain ⟨j, Wc, hj, rfl, hU, hPt, hrv, hrr8, kp⟩ := hrel
                by_cases hjn : j < N
                · as_aux_lemma =>
                  have jn : (j : Int) < (N : Int) := by omega
                  have hcw := hU.rw'.at_ (k := j) (by rw [hPt.len]; exact hjn)
                  rw [hPt.cur hjn] at hcw
                  have hcv := hrv.lo (k := j) (by rw [hVl.out]; exact hjn)
                  have hv1 := hVf.out j hjn
                  rw [lo_small hv1.1 hv1.2 hmx1] at hcv
                  have hw1 := hat.out j hjn
                  have hstep := Lib.hid (hPt.step hjn)
                  have hset := Lib.hid (fun (w : World) (h : WRow w gw Wc) => h.set (k := j) (W2.getD j 0))
                  rw [hW2a.out j hjn] at hstep hset
                  obtain ⟨a1, ha1⟩ : ∃ a1, Wz.getD j 0 = a1 := ⟨_, rfl⟩
                  obtain ⟨a2, ha2⟩ : ∃ a2, V.getD j 0 = a2 := ⟨_, rfl⟩
                  rw [ha1] at hcw hw1 hstep hset
                  rw [ha2] at hcv hv1 hstep hset
                  have hsw : IntKind.u64.wrap (a1 + a2) = a1 + a2 := by
                    have := hmk.out
                    rw [IntKind.wrap_u64]
                    omega
                  clear ha1 ha2 hv1 hw1
                  replace hU := Lib.hid hU
                  replace hPt := Lib.hid hPt
                  replace kp := Lib.hid kp
                  go_upto_region 27 with (fail)
                  refine wp_region_flow1 11 (by kernel_rfl) (by kernel_rfl) (by kernel_rfl) ?_
                  apply Exists.intro
                  refine ⟨fun ι _ φ hφ => ?_, fun wt hwt => ?_⟩
                  · have q0 := fun i => hφ.cell hcw i
                    have q1 := fun i => hφ.cell hcv i
                    simp only [List.take_succ_cons, List.take_zero]
                    repeat (go_big_quiet_step (fail))
                    exact wpQuiet_nil rfl
                  have hU2 := hU.out.up hwt
                  replace hrv := hrv.up hwt
                  replace hrr8 := hrr8.up hwt
                  replace kp := Lib.hid (keeps hwt kp.out)
                  have hbut : But gw wt (wt.setCell ⟨gw, j, none⟩ (.int .u64 (a1 + a2))) := (But.refl gw wt).set _
                  have hcz : wt.cell? ⟨gw, j, none⟩ = some (.int .u64 a1) := cell_upU hcw hwt
                  have hfz := hU2.rw'.free j
                  have hU3 := Lib.hid (hU2.setW hbut lgw (hset.out _ hU2.rw'))
                  have hrv3 := Lib.hid (show Row (wt.setCell ⟨gw, j, none⟩ (.int .u64 (a1 + a2))) gv V from (hbut.block _ (lt_of_get hrv) (ne_typeU hrv hU2.rw' (by decide))).trans hrv)
                  have hrr3 := Lib.hid (show Row (wt.setCell ⟨gw, j, none⟩ (.int .u64 (a1 + a2))) gr R from (hbut.block _ (lt_of_get hrr8) (ne_typeU hrr8 hU2.rw' (by decide))).trans hrr8)
                  have kp3 := Lib.hid ((hbut.block _ (lt_of_get kp.out) (ne_typeU kp.out hU2.rw' (by decide))).trans kp.out)
                  clear hbut hU2 hU hrv hrr8 kp hcw hcv hwt hset
                  simp only [List.drop_succ_cons, List.drop_zero]
                  go_wp2
                  exact ⟨⟨j + 1, _, by omega, by go_num, hU3.out, hstep.out, hrv3.out, hrr3.out, kp3.out⟩, left_uU (by assumption)⟩
                · as_aux_lemma =>
                  have hjN : N = j := by omega
                  subst hjN
                  have hWc := hPt.done hW2l.out
                  subst hWc
                  have hAd := Lib.hid (fun (w : World) (X Y : List Int) (gx g' : Nat) (hXo : ElemsOK X) (hYo : ElemsOK Y) (hXl : X.length = N) (hYl : Y.length = N) (hT : Tabs w) (hX : Row w gx X) (hY : Row w g' Y) => tadd_ok x p s h.out X Y (some ⟨gx, 0, none⟩) (some ⟨g', 0, none⟩) N N N N (k : Int) (CK k) r.ns hPk.id (few_lt (by omega)) hNN.out.symm rfl hXo hYo hXl hYl (hCKl.out k) (chk_lim _) w hT hX.elems hY.elems)
                  unfold tvl totv at hAd
                  have hxo := Lib.hid (InF.okU hff (hSKi.out k))
                  have hyo := Lib.hid (InF.okU hff hOi.out)
                  have hso := Lib.hid (InF.okU hff hCut.out.iS)
                  have hro2 := Lib.hid (InF.okU hff hRi.out)
                  have hidr := idc_len hPk.id
                  have h9q : q9 ≠ q14 := by omega
                  have hpq : p18 ≠ q14 := ne_typeU kp hU.ka (by decide)
                  obtain ⟨bo', oo', eo, hob0, -⟩ := hOu k hlt
                  cases eo
                  have hbq : bo ≠ q14 := by
                    have h1 := World.block_lt_of_cell? _ _ hob0
                    have h2 : bo < wm.heap.size := h1
                    omega
                  clear hob0 hrv hPt
                  obtain ⟨bo', oo', eo, hob, hro⟩ := (hOu.up hU.b9) k hlt
                  cases eo
                  replace hro : Row wr (gs k) (outL x.f N (ys k)) := hro
                  rw [hyy, hOe.out, hgy.out] at hro
                  rw [hgy.out] at hob
                  go_upto_region 29 with (fail)
                  refine segS_start (gb := fun b => b ≠ q14) 13 (by kernel_rfl) (by decide) ?_
                  intro v0 hv
                  replace hU := hU.up hv
                  replace kp := keeps hv kp
                  replace hrr8 := hrr8.up hv
                  try replace hro := hro.up hv
                  try replace hob := cell_upU hob hv
                  try replace ktv := keeps hv ktv
                  clear hv
                  have ktv := keeps hU.b9 kt
                  refine segS_batch 6 [1, 2, 3, 4, 5, 6, 7] (by kernel_rfl) rfl (by kernel_rfl) (by kernel_rfl) (by kernel_rfl) ?_
                  apply Exists.intro
                  refine ⟨fun ι _ φ hφ => ?_, fun v1 hv => ?_⟩
                  · have hobi := fun i => (World.cell?_of_block ((hφ.old i).block _ (World.block_lt_of_cell? _ _ hob) hbq)).trans hob
                    repeat (refine pick_step rfl ?_; first
                      | (refine quiet_load_mid _ _ _ 0 _ _ rfl rfl rfl (mid_familyT hφ (At0.of_block ktv) h9q) Tryd.underlying33 rfl (by kernel_rfl) ?_; simp only [Act.put, List.setIfInBounds_toArray, List.set_cons_succ, List.set_cons_zero])
                      | (refine quiet_load_mid _ _ _ 0 _ _ rfl rfl rfl (mid_familyT hφ (Rp.idr kp) hpq) Tryd.underlying51 rfl (by rw [hidr]; kernel_rfl) ?_; simp only [Act.put, List.setIfInBounds_toArray, List.set_cons_succ, List.set_cons_zero])
                      | go_big_quiet_step (fail))
                    exact pick_end
                  replace hU := hU.up hv
                  replace kp := keeps hv kp
                  replace hrr8 := hrr8.up hv
                  try replace hro := hro.up hv
                  try replace hob := cell_upU hob hv
                  try replace ktv := keeps hv ktv
                  clear hv
                  clear ktv hob
                  refine segS_one 0 _ (by decide) rfl (by kernel_rfl) ?_
                  intro v2 K2 hv hK
                  replace hU := hU.up hv
                  replace kp := keeps hv kp
                  replace hrr8 := hrr8.up hv
                  try replace hro := hro.up hv
                  try replace hob := cell_upU hob hv
                  try replace ktv := keeps hv ktv
                  clear hv
                  rw [if_pos (by kernel_rfl)]
                  refine wp_load_mid 39 _ rfl q14 0 rfl _ _ (At0.of_block hU.ka) Tryd.underlying39 rfl (by rw [tot_len]; kernel_rfl) (hK _ _ (HeldS.refl _ _) ?_)
                  clear hK K2
                  refine segS_one 8 _ (by decide) rfl (by kernel_rfl) ?_
                  intro v2 K2 hv hK
                  replace hU := hU.up hv
                  replace kp := keeps hv kp
                  replace hrr8 := hrr8.up hv
                  try replace hro := hro.up hv
                  try replace hob := cell_upU hob hv
                  try replace ktv := keeps hv ktv
                  clear hv
                  have hA2 := Lib.hid (hAd.out v2 (SK k) O ga gy hxo.out hyo.out (hSKl.out k) hOl.out (hT.out.up (below_next hb hb.size hU.b9)) hU.ra hro)
                  replace hK := Lib.hid hK
                  go_simp
                  refine hA2.out.mono ?_
                  rintro e v3 ⟨g2', rfl, hv, hg2, hr2⟩
                  refine hK.out _ _ (HeldS.of_below hv) ?_
                  clear hK K2 hA2 hg2 hro
                  replace hU := hU.up hv
                  replace kp := keeps hv kp
                  replace hrr8 := hrr8.up hv
                  try replace hro := hro.up hv
                  try replace hob := cell_upU hob hv
                  try replace ktv := keeps hv ktv
                  clear hv
                  refine segS_batch 1 [9, 10, 11] (by kernel_rfl) rfl (by kernel_rfl) (by kernel_rfl) (by kernel_rfl) ?_
                  apply Exists.intro
                  refine ⟨fun ι _ φ hφ => ?_, fun v1 hv => ?_⟩
                  · repeat (refine pick_step rfl ?_; go_big_quiet_step (fail))
                    exact pick_end
                  replace hr2 := hr2.up hv
                  replace hU := hU.up hv
                  replace kp := keeps hv kp
                  replace hrr8 := hrr8.up hv
                  try replace hro := hro.up hv
                  try replace hob := cell_upU hob hv
                  try replace ktv := keeps hv ktv
                  clear hv
                  refine segS_one 12 _ (by decide) rfl (by kernel_rfl) ?_
                  intro vc K2 hv hK
                  replace hr2 := hr2.up hv
                  replace hU := hU.up hv
                  replace kp := keeps hv kp
                  replace hrr8 := hrr8.up hv
                  try replace hro := hro.up hv
                  try replace hob := cell_upU hob hv
                  try replace ktv := keeps hv ktv
                  clear hv
                  replace hK := Lib.hid hK
                  obtain ⟨I, hI2⟩ : ∃ I, tot (.slice (some ⟨g2', 0, none⟩) N N) ((k : Int) + 1) (xorF (CK k) (chk r.ns)) = I := ⟨_, rfl⟩
                  have hIl : I.length = 18 := by rw [← hI2]; exact tot_len _ _ _
                  have hI1 : ∀ u ∈ I, u.oneCell' = true := by rw [← hI2]; exact one_tot _ _
                  have hbut : But q14 vc (vc.setCells q14 0 I) := (But.refl q14 vc).setCells I 0 vc
                  have k8 : (vc.setCells q14 0 I).heap[q14]? = some (.cells I.toArray 39 (0, 0)) := by
                    rw [heap_setCells _ _ _ _ _ _ _ hU.ka, build_one _ _ (by rw [hIl]; simp [tot_len])]
                  rw [if_pos (by kernel_rfl)]
                  refine wp_store_mid 39 _ _ rfl q14 0 I.toArray rfl (by rw [← hI2]; rfl) (fun j hj => ?_) (by simp only [List.size_toArray, hIl]; exact info_total) (by simpa using hI1) (hK.out _ _ ⟨hbut.os, hbut.tape, hbut.output, hbut.size, fun b hb hne => hbut.block b hb hne⟩ ?_)
                  · have hj' : j < 18 := by rw [← hIl]; simpa using hj
                    have hj2 : j < (tot (.slice (some ⟨ga, 0, none⟩) N N) (k : Int) (CK k)).length := by rw [tot_len]; exact hj'
                    have ka := hU.ka
                    simp [World.cell?, World.frozen?, ka, hj2]
                  have hr2' : Row (vc.setCells q14 0 I) g2' _ := (hbut.block _ (lt_of_get hr2) (ne_typeU hr2 hU.ka (by decide))).trans hr2
                  have hrr' : Row (vc.setCells q14 0 I) gr R := (hbut.block _ (lt_of_get hrr8) (ne_typeU hrr8 hU.ka (by decide))).trans hrr8
                  have kp' := (hbut.block _ (lt_of_get kp) hpq).trans kp
                  rw [← hI2] at k8
                  have hU4 := hU.setA hbut l14 hne (by rw [← hI2] at *; exact k8) hr2'
                  clear hK K2 hbut hU k8 kp hr2 hrr8 hr2'
                  have hrr8 := hrr'
                  have kp := kp'
                  clear hrr' kp'
                  generalize vc.setCells q14 0 I = vd at *
                  clear hI2 hIl hI1
                  try rw [put_noneT]
                  refine segS_done rfl (by kernel_rfl) ?_
                  intro v5 hv
                  replace hU4 := hU4.up hv
                  replace kp := keeps hv kp
                  replace hrr8 := hrr8.up hv
                  clear hv
                  have ktv := keeps hU4.b9 kt
                  have hB2 := Lib.hid (hAd.out v5 Sb R gb gr hso.out hro2.out hCut.out.lS hRl.out (hT.out.up (below_next hb hb.size hU4.b9)) hU4.rb hrr8)
                  replace hU4 := Lib.hid hU4
                  have kb4 := At0.of_block hU4.out.kb
                  go_wp2_with (first
                    | (refine list_load_mid _ _ _ 0 _ _ rfl rfl rfl kb4 Tryd.underlying39 rfl (by rw [tot_len]; kernel_rfl) ?_)
                    | (refine list_load_mid _ _ _ 0 _ _ rfl rfl rfl (At0.of_block ktv) Tryd.underlying33 rfl (by kernel_rfl) ?_)
                    | (refine list_load_mid _ _ _ 0 _ _ rfl rfl rfl (Rp.idr kp) Tryd.underlying51 rfl (by rw [hidr]; kernel_rfl) ?_))
                  refine hB2.out.mono ?_
                  rintro e v6 ⟨g3, rfl, hv, hg3, hr3⟩
                  replace hU4 := hU4.out.up hv
                  clear hv hB2 kb4 ktv kp hrr8 hg3
                  have hone := Lib.hid (one_tot (A := some ⟨g3, 0, none⟩) (n := N) (cp := N) ((k : Int) + 1) (xorF (CK k) (chk r.ns)))
                  have kb4 := hU4.kb
                  replace hU4 := Lib.hid hU4
                  go_wp2_with (first
                    | (refine list_store_whole _ _ _ _ (tot (.slice (some ⟨g3, 0, none⟩) N N) ((k : Int) + 1) (xorF (CK k) (chk r.ns))) (tot (.slice (some ⟨gb, 0, none⟩) N N) (k : Int) (CK k)) 39 rfl rfl rfl rfl kb4 (by rw [tot_len, tot_len]) (by rw [tot_len]; kernel_rfl) hone.out ?_; intro vz hbut kz))
                  have hr3' : Row vz g3 _ := (hbut.block _ (lt_of_get hr3) (ne_typeU hr3 kb4 (by decide))).trans hr3
                  have hU5 := hU4.out.setB hbut l15 hne kz hr3'
                  have e1 : ((k + 1 : Nat) : Int) = (k : Int) + 1 := by omega
                  exact ⟨⟨k + 1, _, _, g2', g3, by omega, by go_num, by rw [e1, hCs.out, hSs.out]; exact hU5, hCut2.out⟩, left_uU (by assumption)⟩
            · have m0 : decide ((mn : Int) > 50) = true := by simp; omega
              clear hmn
              go_wp2
              go_ret
              exact ⟨rfl, hbw⟩
        · as_aux_lemma =>
          have hkn : n = k := by omega
          subst hkn
          have hok := InF.okU hff (hSKi.out n)
          have hob := InF.okU hff hCut.out.iS
          have hall := hCut.out.all (hSKl.out n)
          have hle := hCut.out.le
          rw [← hmxe.out] at hle
          have hW12 : Wz.length = N := hCut.out.lW
          have hlS := hCut.out.lS
          have hUn := Lib.hid (fun (w : World) (hX : Row w ga (SK n)) (hY : Row w gb Sb) => unshard_ok x p s h.out (SK n) Sb Wz (some ⟨ga, 0, none⟩) (some ⟨gb, 0, none⟩) N N N n (n : Int) (n : Int) rfl rfl (by omega) (CK n) (CK n) (sameC_refl _) hNN.out.symm hok hob (hSKl.out n) hlS hall hle w hX.elems hY.elems)
          unfold tvl totv DecOut at hUn
          rw [hW12] at hUn
          have hzok : ElemsOK (List.replicate N 0) := fun z hz => by
            obtain rfl := List.eq_of_mem_replicate hz
            omega
          have hAdm := Lib.hid (fun (w : World) (hT : Tabs w) (hX : Row w gb Sb) (g' : Nat) (hY : Row w g' (List.replicate N 0)) => tadd_ok x p s h.out Sb (List.replicate N 0) (some ⟨gb, 0, none⟩) (some ⟨g', 0, none⟩) N N N N (n : Int) (CK n) os hos (few_lt (by omega)) hNN.out.symm rfl hob hzok hlS (by simp) (hCKl.out n) (chk_lim os) w hT hX.elems hY.elems)
          have hUc := Lib.hid (fun (g30 : Nat) (w : World) => unshard_count x p s h.out (some ⟨ga, 0, none⟩) (some ⟨g30, 0, none⟩) N N N (n : Int) ((n : Int) + 1) (by omega) (CK n) (xorF (CK n) (chk os)) w)
          have hUk := Lib.hid (fun (c' : Nat → Nat) (hc : sameC (CK n) c' = false) (w : World) => unshard_check x p s h.out (some ⟨ga, 0, none⟩) (some ⟨gb, 0, none⟩) N N N (n : Int) (n : Int) rfl (CK n) c' hc w)
          unfold tvl totv at hAdm hUc hUk
          clear hok hob hall hle hzok
          replace hW12 := Lib.hid hW12
          replace hlS := Lib.hid hlS
          have ktv := keeps hU.b9 kt
          have ka4 := At0.of_block hU.ka
          have kb4 := At0.of_block hU.kb
          replace hU := Lib.hid hU
          go_wp2_with (first
            | (refine list_load_mid _ _ _ 0 _ _ rfl rfl rfl ka4 Tryd.underlying39 rfl (by rw [tot_len]; kernel_rfl) ?_)
            | (refine list_load_mid _ _ _ 0 _ _ rfl rfl rfl kb4 Tryd.underlying39 rfl (by rw [tot_len]; kernel_rfl) ?_)
            | (refine list_load_mid _ _ _ 0 _ _ rfl rfl rfl (At0.of_block ktv) Tryd.underlying33 rfl (by kernel_rfl) ?_))
          refine (hUn.out _ hU.out.ra hU.out.rb).mono ?_
          rintro e w20 ⟨g5, rfl, hv, hg5, hr5⟩
          replace hU := Lib.hid (hU.out.up hv)
          clear hv hUn hg5 ktv ka4 kb4
          go_wp2
          go_loopw [172] (fun i wr => ∃ j : Nat, j ≤ N ∧ i = .int .i64 (j : Int) ∧ Below w20.heap.size w20 wr) (fun i _ => N - (intOf i).toNat)
          case atStart => exact ⟨0, Nat.zero_le _, rfl, Below.refl _ _⟩
          case round =>
            obtain ⟨j, hj, rfl, hb7⟩ := hrel
            by_cases hjn : j < N
            · have jn : (j : Int) < (N : Int) := by omega
              have h1 := (hr5.up hb7).at_ (k := j) (by rw [hW12.out]; exact hjn)
              have h2 := (hU.out.up hb7).rw'.at_ (k := j) (by rw [hW12.out]; exact hjn)
              obtain ⟨z, hz⟩ : ∃ z, Wz.getD j 0 = z := ⟨_, rfl⟩
              rw [hz] at h1 h2
              clear hz
              go_upto_region 38 with (fail)
              refine wp_region_flow0 (by kernel_rfl) (by kernel_rfl) ?_
              intro ι _ φ hφ
              have q1 := fun i => hφ.cell h1 i
              have q2 := fun i => hφ.cell h2 i
              repeat (go_big_quiet_step (fail))
              refine wpQuiet_nil ?_
              intro wz hv
              replace hb7 := below_next hb7 hb7.size hv
              clear hv q1 q2 h1 h2 hφ
              go_wp2
              exact ⟨⟨j + 1, by omega, by go_num, hb7⟩, left_uU (by assumption)⟩
            · have hU2 := hU.out.up hb7
              clear hU hb7 hr5
              have hU := hU2
              clear hU2
              have hki := keeps hU.b9 ki
              have hktw := keeps hU.b9 kt
              have hkcw := keeps hU.b9 kc
              have lki := lt_of_get hki
              have lkt := lt_of_get hktw
              have lkc := lt_of_get hkcw
              have lkb := lt_of_get hU.kb
              go_upto_region 41 with (fail)
              go_cut [30, 31] (fun v u w' => ∃ q30 g30, v = .pointer (some ⟨q30, 0, none⟩) ∧ u = .int .i64 0 ∧ Below wr.heap.size wr w' ∧ w'.heap[q30]? = some (.cells (tot (.slice (some ⟨g30, 0, none⟩) N N) ((n : Int) + 1) (xorF (CK n) (chk os))).toArray 39 (0, 0)))
              case first =>
                as_aux_lemma =>
                  have hz := Below.refl wr.heap.size wr
                  refine segS_start (gb := fun k => k < wr.heap.size) 13 (by kernel_rfl) (by decide) ?_
                  intro v0 hv
                  replace hz := below_next hz hz.size hv
                  try replace k30 := keeps hv k30
                  try replace rY := rY.up hv
                  try replace rZ := rZ.up hv
                  clear hv
                  have r1 := range_upU (At0.of_block hU.kb) hz
                  have r2 := range_upU (At0.of_block hktw) hz
                  have r3 := range_upU (At0.of_block hki) hz
                  have r4 := range_upU (At0.of_block hkcw) hz
                  refine segS_batch 8 [0, 1, 2, 3, 4] (by kernel_rfl) rfl (by kernel_rfl) (by kernel_rfl) (by kernel_rfl) ?_
                  apply Exists.intro
                  refine ⟨fun ι _ φ hφ => ?_, fun v1 hv => ?_⟩
                  · repeat (refine pick_step rfl ?_; first
                      | (refine quiet_load_mid _ _ _ 0 _ _ rfl rfl rfl (mid_familyT hφ r1 lkb) Tryd.underlying39 rfl (by rw [tot_len]; kernel_rfl) ?_; simp only [Act.put, List.setIfInBounds_toArray, List.set_cons_succ, List.set_cons_zero])
                      | (refine quiet_load_mid _ _ _ 0 _ _ rfl rfl rfl (mid_familyT hφ r2 lkt) Tryd.underlying33 rfl (by kernel_rfl) ?_; simp only [Act.put, List.setIfInBounds_toArray, List.set_cons_succ, List.set_cons_zero])
                      | (refine quiet_load_mid _ _ _ 0 _ _ rfl rfl rfl (mid_familyT hφ r3 lki) Tryd.underlying51 rfl (by rw [hidl]; kernel_rfl) ?_; simp only [Act.put, List.setIfInBounds_toArray, List.set_cons_succ, List.set_cons_zero])
                      | (refine quiet_load_mid _ _ _ 0 _ _ rfl rfl rfl (mid_familyT hφ r4 lkc) Tryd.underlying31 rfl (by kernel_rfl) ?_; simp only [Act.put, List.setIfInBounds_toArray, List.set_cons_succ, List.set_cons_zero])
                      | go_big_quiet_step ((go_at_call 20; exact flowS_call hφ (hO.out _))))
                    exact pick_end
                  replace hz := below_next hz hz.size hv
                  try replace k30 := keeps hv k30
                  try replace rY := rY.up hv
                  try replace rZ := rZ.up hv
                  clear hv
                  clear r1 r2 r3 r4
                  refine segS_more [5, 10] (by kernel_rfl) (by decide) ?_
                  intro j hj
                  simp only [List.mem_cons, List.not_mem_nil, or_false] at hj
                  rcases hj with rfl | rfl
                  · refine ⟨by decide, _, rfl, ?_⟩
                    intro v7 K2 hv hK
                    replace hz := below_next hz hz.size hv
                    try replace k30 := keeps hv k30
                    try replace rY := rY.up hv
                    try replace rZ := rZ.up hv
                    clear hv
                    replace hK := Lib.hid hK
                    go_simp
                    have hv := (Below.refl v7.heap.size v7).alloc (Nat.le_refl _) (.cells (ecells (List.replicate N 0)).toArray 65 (0, 0))
                    refine hK.out _ _ (HeldS.of_below hv) ?_
                    clear hK K2
                    have rY : Row (v7.alloc (.cells (ecells (List.replicate N 0)).toArray 65 (0, 0))) v7.heap.size (List.replicate N 0) := alloc_at rfl
                    replace hz := below_next hz hz.size hv
                    try replace k30 := keeps hv k30
                    try replace rY := rY.up hv
                    try replace rZ := rZ.up hv
                    clear hv
                    generalize v7.alloc (.cells (ecells (List.replicate N 0)).toArray 65 (0, 0)) = v8 at *
                    generalize v7.heap.size = gY at *
                    refine segS_more [6, 10] (by kernel_rfl) (by decide) ?_
                    intro j hj
                    simp only [List.mem_cons, List.not_mem_nil, or_false] at hj
                    rcases hj with rfl | rfl
                    · refine ⟨by decide, _, rfl, ?_⟩
                      intro v9 K2 hv hK
                      replace hz := below_next hz hz.size hv
                      try replace k30 := keeps hv k30
                      try replace rY := rY.up hv
                      try replace rZ := rZ.up hv
                      clear hv
                      have hA2 := Lib.hid (hAdm.out v9 (hT.out.up (below_next hb hb.size (below_next hU.b9 hU.b9.size hz))) (hU.rb.up hz) gY rY)
                      replace hK := Lib.hid hK
                      go_simp
                      refine hA2.out.mono ?_
                      rintro e vb ⟨g30, rfl, hv, hgn, rZ⟩
                      refine hK.out _ _ (HeldS.of_below hv) ?_
                      clear hK hA2 K2 hgn
                      replace hz := below_next hz hz.size hv
                      try replace k30 := keeps hv k30
                      try replace rY := rY.up hv
                      try replace rZ := rZ.up hv
                      clear hv
                      refine segS_batch 3 [7, 8, 9] (by kernel_rfl) rfl (by kernel_rfl) (by kernel_rfl) (by kernel_rfl) ?_
                      apply Exists.intro
                      refine ⟨fun ι _ φ hφ => ?_, fun v4 hv => ?_⟩
                      · repeat (refine pick_step rfl ?_; go_big_quiet_step (fail))
                        exact pick_end
                      replace hz := below_next hz hz.size hv
                      try replace k30 := keeps hv k30
                      try replace rY := rY.up hv
                      try replace rZ := rZ.up hv
                      clear hv
                      refine segS_one 10 _ (by decide) rfl (by kernel_rfl) ?_
                      intro v7 K2 hv hK
                      replace hz := below_next hz hz.size hv
                      try replace k30 := keeps hv k30
                      try replace rY := rY.up hv
                      try replace rZ := rZ.up hv
                      clear hv
                      replace hK := Lib.hid hK
                      go_simp
                      have hv := (Below.refl v7.heap.size v7).alloc (Nat.le_refl _) (.cells #[.slice none 0 0, .int .i64 0, .int .u8 0, .int .u8 0, .int .u8 0, .int .u8 0, .int .u8 0, .int .u8 0, .int .u8 0, .int .u8 0, .int .u8 0, .int .u8 0, .int .u8 0, .int .u8 0, .int .u8 0, .int .u8 0, .int .u8 0, .int .u8 0] 39 (0, 0))
                      refine hK.out _ _ (HeldS.of_below hv) ?_
                      clear hK K2
                      have k30 : (v7.alloc (.cells #[.slice none 0 0, .int .i64 0, .int .u8 0, .int .u8 0, .int .u8 0, .int .u8 0, .int .u8 0, .int .u8 0, .int .u8 0, .int .u8 0, .int .u8 0, .int .u8 0, .int .u8 0, .int .u8 0, .int .u8 0, .int .u8 0, .int .u8 0, .int .u8 0] 39 (0, 0))).heap[v7.heap.size]? = some (.cells noTot.toArray 39 (0, 0)) := alloc_at rfl
                      have l30 : wr.heap.size ≤ v7.heap.size := hz.size
                      replace hz := below_next hz hz.size hv
                      try replace k30 := keeps hv k30
                      try replace rY := rY.up hv
                      try replace rZ := rZ.up hv
                      clear hv
                      generalize v7.alloc (.cells #[.slice none 0 0, .int .i64 0, .int .u8 0, .int .u8 0, .int .u8 0, .int .u8 0, .int .u8 0, .int .u8 0, .int .u8 0, .int .u8 0, .int .u8 0, .int .u8 0, .int .u8 0, .int .u8 0, .int .u8 0, .int .u8 0, .int .u8 0, .int .u8 0] 39 (0, 0)) = v8 at *
                      generalize v7.heap.size = q30 at *
                      refine segS_one 11 _ (by decide) rfl (by kernel_rfl) ?_
                      intro vc K2 hv hK
                      replace hz := below_next hz hz.size hv
                      try replace k30 := keeps hv k30
                      try replace rY := rY.up hv
                      try replace rZ := rZ.up hv
                      clear hv
                      replace hK := Lib.hid hK
                      obtain ⟨I, hI2⟩ : ∃ I, tot (.slice (some ⟨g30, 0, none⟩) N N) ((n : Int) + 1) (xorF (CK n) (chk os)) = I := ⟨_, rfl⟩
                      have hIl : I.length = 18 := by rw [← hI2]; exact tot_len _ _ _
                      have hone : ∀ u ∈ I, u.oneCell' = true := by rw [← hI2]; exact one_tot _ _
                      have hbut : But q30 vc (vc.setCells q30 0 I) := (But.refl q30 vc).setCells I 0 vc
                      have k8n : (vc.setCells q30 0 I).heap[q30]? = some (.cells I.toArray 39 (0, 0)) := by
                        rw [heap_setCells _ _ _ _ _ _ _ k30, build_one _ _ (by rw [hIl]; rfl)]
                      rw [if_pos (by kernel_rfl)]
                      refine wp_store_mid 39 _ _ rfl q30 0 I.toArray rfl (by rw [← hI2]; rfl) (fun j hj => ?_) (by simp only [List.size_toArray, hIl]; exact info_total) (by simpa using hone) (hK.out _ _ ⟨hbut.os, hbut.tape, hbut.output, hbut.size, fun b hb hne => hbut.block b hb (by have : b < wr.heap.size := hne; omega)⟩ ?_)
                      · have hj' : j < 18 := by rw [← hIl]; simpa using hj
                        simp [World.cell?, World.frozen?, k30]
                        exact hj'
                      replace hz := hbut.below hz l30 hz.size
                      clear hK K2 hbut k30 rZ rY
                      have k30 := k8n
                      clear k8n
                      generalize vc.setCells q30 0 I = vd at *
                      try rw [put_noneT]
                      refine segS_batch 0 [12] (by kernel_rfl) rfl (by kernel_rfl) (by kernel_rfl) (by kernel_rfl) ?_
                      apply Exists.intro
                      refine ⟨fun ι _ φ hφ => ?_, fun v4 hv => ?_⟩
                      · repeat (refine pick_step rfl ?_; go_big_quiet_step (fail))
                        exact pick_end
                      replace hz := below_next hz hz.size hv
                      try replace k30 := keeps hv k30
                      try replace rY := rY.up hv
                      try replace rZ := rZ.up hv
                      clear hv
                      refine segS_done rfl (by kernel_rfl) ?_
                      intro v5 hv
                      replace hz := below_next hz hz.size hv
                      try replace k30 := keeps hv k30
                      try replace rY := rY.up hv
                      try replace rZ := rZ.up hv
                      clear hv
                      subst hI2
                      go_wp2
                      go_meet
                      exact ⟨q30, g30, rfl, rfl, hz, k30⟩
                    · refine ⟨by decide, _, rfl, ?_⟩
                      intro v7 K2 hv hK
                      replace hz := below_next hz hz.size hv
                      try replace k30 := keeps hv k30
                      try replace rY := rY.up hv
                      try replace rZ := rZ.up hv
                      clear hv
                      replace hK := Lib.hid hK
                      go_simp
                      have hv := (Below.refl v7.heap.size v7).alloc (Nat.le_refl _) (.cells #[.slice none 0 0, .int .i64 0, .int .u8 0, .int .u8 0, .int .u8 0, .int .u8 0, .int .u8 0, .int .u8 0, .int .u8 0, .int .u8 0, .int .u8 0, .int .u8 0, .int .u8 0, .int .u8 0, .int .u8 0, .int .u8 0, .int .u8 0, .int .u8 0] 39 (0, 0))
                      refine hK.out _ _ (HeldS.of_below hv) ?_
                      clear hK K2
                      have k30 : (v7.alloc (.cells #[.slice none 0 0, .int .i64 0, .int .u8 0, .int .u8 0, .int .u8 0, .int .u8 0, .int .u8 0, .int .u8 0, .int .u8 0, .int .u8 0, .int .u8 0, .int .u8 0, .int .u8 0, .int .u8 0, .int .u8 0, .int .u8 0, .int .u8 0, .int .u8 0] 39 (0, 0))).heap[v7.heap.size]? = some (.cells noTot.toArray 39 (0, 0)) := alloc_at rfl
                      have l30 : wr.heap.size ≤ v7.heap.size := hz.size
                      replace hz := below_next hz hz.size hv
                      try replace k30 := keeps hv k30
                      try replace rY := rY.up hv
                      try replace rZ := rZ.up hv
                      clear hv
                      generalize v7.alloc (.cells #[.slice none 0 0, .int .i64 0, .int .u8 0, .int .u8 0, .int .u8 0, .int .u8 0, .int .u8 0, .int .u8 0, .int .u8 0, .int .u8 0, .int .u8 0, .int .u8 0, .int .u8 0, .int .u8 0, .int .u8 0, .int .u8 0, .int .u8 0, .int .u8 0] 39 (0, 0)) = v8 at *
                      generalize v7.heap.size = q30 at *
                      refine segS_one 6 _ (by decide) rfl (by kernel_rfl) ?_
                      intro v9 K2 hv hK
                      replace hz := below_next hz hz.size hv
                      try replace k30 := keeps hv k30
                      try replace rY := rY.up hv
                      try replace rZ := rZ.up hv
                      clear hv
                      have hA2 := Lib.hid (hAdm.out v9 (hT.out.up (below_next hb hb.size (below_next hU.b9 hU.b9.size hz))) (hU.rb.up hz) gY rY)
                      replace hK := Lib.hid hK
                      go_simp
                      refine hA2.out.mono ?_
                      rintro e vb ⟨g30, rfl, hv, hgn, rZ⟩
                      refine hK.out _ _ (HeldS.of_below hv) ?_
                      clear hK hA2 K2 hgn
                      replace hz := below_next hz hz.size hv
                      try replace k30 := keeps hv k30
                      try replace rY := rY.up hv
                      try replace rZ := rZ.up hv
                      clear hv
                      refine segS_batch 2 [7, 8, 9] (by kernel_rfl) rfl (by kernel_rfl) (by kernel_rfl) (by kernel_rfl) ?_
                      apply Exists.intro
                      refine ⟨fun ι _ φ hφ => ?_, fun v4 hv => ?_⟩
                      · repeat (refine pick_step rfl ?_; go_big_quiet_step (fail))
                        exact pick_end
                      replace hz := below_next hz hz.size hv
                      try replace k30 := keeps hv k30
                      try replace rY := rY.up hv
                      try replace rZ := rZ.up hv
                      clear hv
                      refine segS_one 11 _ (by decide) rfl (by kernel_rfl) ?_
                      intro vc K2 hv hK
                      replace hz := below_next hz hz.size hv
                      try replace k30 := keeps hv k30
                      try replace rY := rY.up hv
                      try replace rZ := rZ.up hv
                      clear hv
                      replace hK := Lib.hid hK
                      obtain ⟨I, hI2⟩ : ∃ I, tot (.slice (some ⟨g30, 0, none⟩) N N) ((n : Int) + 1) (xorF (CK n) (chk os)) = I := ⟨_, rfl⟩
                      have hIl : I.length = 18 := by rw [← hI2]; exact tot_len _ _ _
                      have hone : ∀ u ∈ I, u.oneCell' = true := by rw [← hI2]; exact one_tot _ _
                      have hbut : But q30 vc (vc.setCells q30 0 I) := (But.refl q30 vc).setCells I 0 vc
                      have k8n : (vc.setCells q30 0 I).heap[q30]? = some (.cells I.toArray 39 (0, 0)) := by
                        rw [heap_setCells _ _ _ _ _ _ _ k30, build_one _ _ (by rw [hIl]; rfl)]
                      rw [if_pos (by kernel_rfl)]
                      refine wp_store_mid 39 _ _ rfl q30 0 I.toArray rfl (by rw [← hI2]; rfl) (fun j hj => ?_) (by simp only [List.size_toArray, hIl]; exact info_total) (by simpa using hone) (hK.out _ _ ⟨hbut.os, hbut.tape, hbut.output, hbut.size, fun b hb hne => hbut.block b hb (by have : b < wr.heap.size := hne; omega)⟩ ?_)
                      · have hj' : j < 18 := by rw [← hIl]; simpa using hj
                        simp [World.cell?, World.frozen?, k30]
                        exact hj'
                      replace hz := hbut.below hz l30 hz.size
                      clear hK K2 hbut k30 rZ rY
                      have k30 := k8n
                      clear k8n
                      generalize vc.setCells q30 0 I = vd at *
                      try rw [put_noneT]
                      refine segS_batch 0 [12] (by kernel_rfl) rfl (by kernel_rfl) (by kernel_rfl) (by kernel_rfl) ?_
                      apply Exists.intro
                      refine ⟨fun ι _ φ hφ => ?_, fun v4 hv => ?_⟩
                      · repeat (refine pick_step rfl ?_; go_big_quiet_step (fail))
                        exact pick_end
                      replace hz := below_next hz hz.size hv
                      try replace k30 := keeps hv k30
                      try replace rY := rY.up hv
                      try replace rZ := rZ.up hv
                      clear hv
                      refine segS_done rfl (by kernel_rfl) ?_
                      intro v5 hv
                      replace hz := below_next hz hz.size hv
                      try replace k30 := keeps hv k30
                      try replace rY := rY.up hv
                      try replace rZ := rZ.up hv
                      clear hv
                      subst hI2
                      go_wp2
                      go_meet
                      exact ⟨q30, g30, rfl, rfl, hz, k30⟩
                  · refine ⟨by decide, _, rfl, ?_⟩
                    intro v7 K2 hv hK
                    replace hz := below_next hz hz.size hv
                    try replace k30 := keeps hv k30
                    try replace rY := rY.up hv
                    try replace rZ := rZ.up hv
                    clear hv
                    replace hK := Lib.hid hK
                    go_simp
                    have hv := (Below.refl v7.heap.size v7).alloc (Nat.le_refl _) (.cells #[.slice none 0 0, .int .i64 0, .int .u8 0, .int .u8 0, .int .u8 0, .int .u8 0, .int .u8 0, .int .u8 0, .int .u8 0, .int .u8 0, .int .u8 0, .int .u8 0, .int .u8 0, .int .u8 0, .int .u8 0, .int .u8 0, .int .u8 0, .int .u8 0] 39 (0, 0))
                    refine hK.out _ _ (HeldS.of_below hv) ?_
                    clear hK K2
                    have k30 : (v7.alloc (.cells #[.slice none 0 0, .int .i64 0, .int .u8 0, .int .u8 0, .int .u8 0, .int .u8 0, .int .u8 0, .int .u8 0, .int .u8 0, .int .u8 0, .int .u8 0, .int .u8 0, .int .u8 0, .int .u8 0, .int .u8 0, .int .u8 0, .int .u8 0, .int .u8 0] 39 (0, 0))).heap[v7.heap.size]? = some (.cells noTot.toArray 39 (0, 0)) := alloc_at rfl
                    have l30 : wr.heap.size ≤ v7.heap.size := hz.size
                    replace hz := below_next hz hz.size hv
                    try replace k30 := keeps hv k30
                    try replace rY := rY.up hv
                    try replace rZ := rZ.up hv
                    clear hv
                    generalize v7.alloc (.cells #[.slice none 0 0, .int .i64 0, .int .u8 0, .int .u8 0, .int .u8 0, .int .u8 0, .int .u8 0, .int .u8 0, .int .u8 0, .int .u8 0, .int .u8 0, .int .u8 0, .int .u8 0, .int .u8 0, .int .u8 0, .int .u8 0, .int .u8 0, .int .u8 0] 39 (0, 0)) = v8 at *
                    generalize v7.heap.size = q30 at *
                    refine segS_one 5 _ (by decide) rfl (by kernel_rfl) ?_
                    intro v7 K2 hv hK
                    replace hz := below_next hz hz.size hv
                    try replace k30 := keeps hv k30
                    try replace rY := rY.up hv
                    try replace rZ := rZ.up hv
                    clear hv
                    replace hK := Lib.hid hK
                    go_simp
                    have hv := (Below.refl v7.heap.size v7).alloc (Nat.le_refl _) (.cells (ecells (List.replicate N 0)).toArray 65 (0, 0))
                    refine hK.out _ _ (HeldS.of_below hv) ?_
                    clear hK K2
                    have rY : Row (v7.alloc (.cells (ecells (List.replicate N 0)).toArray 65 (0, 0))) v7.heap.size (List.replicate N 0) := alloc_at rfl
                    replace hz := below_next hz hz.size hv
                    try replace k30 := keeps hv k30
                    try replace rY := rY.up hv
                    try replace rZ := rZ.up hv
                    clear hv
                    generalize v7.alloc (.cells (ecells (List.replicate N 0)).toArray 65 (0, 0)) = v8 at *
                    generalize v7.heap.size = gY at *
                    refine segS_one 6 _ (by decide) rfl (by kernel_rfl) ?_
                    intro v9 K2 hv hK
                    replace hz := below_next hz hz.size hv
                    try replace k30 := keeps hv k30
                    try replace rY := rY.up hv
                    try replace rZ := rZ.up hv
                    clear hv
                    have hA2 := Lib.hid (hAdm.out v9 (hT.out.up (below_next hb hb.size (below_next hU.b9 hU.b9.size hz))) (hU.rb.up hz) gY rY)
                    replace hK := Lib.hid hK
                    go_simp
                    refine hA2.out.mono ?_
                    rintro e vb ⟨g30, rfl, hv, hgn, rZ⟩
                    refine hK.out _ _ (HeldS.of_below hv) ?_
                    clear hK hA2 K2 hgn
                    replace hz := below_next hz hz.size hv
                    try replace k30 := keeps hv k30
                    try replace rY := rY.up hv
                    try replace rZ := rZ.up hv
                    clear hv
                    refine segS_batch 2 [7, 8, 9] (by kernel_rfl) rfl (by kernel_rfl) (by kernel_rfl) (by kernel_rfl) ?_
                    apply Exists.intro
                    refine ⟨fun ι _ φ hφ => ?_, fun v4 hv => ?_⟩
                    · repeat (refine pick_step rfl ?_; go_big_quiet_step (fail))
                      exact pick_end
                    replace hz := below_next hz hz.size hv
                    try replace k30 := keeps hv k30
                    try replace rY := rY.up hv
                    try replace rZ := rZ.up hv
                    clear hv
                    refine segS_one 11 _ (by decide) rfl (by kernel_rfl) ?_
                    intro vc K2 hv hK
                    replace hz := below_next hz hz.size hv
                    try replace k30 := keeps hv k30
                    try replace rY := rY.up hv
                    try replace rZ := rZ.up hv
                    clear hv
                    replace hK := Lib.hid hK
                    obtain ⟨I, hI2⟩ : ∃ I, tot (.slice (some ⟨g30, 0, none⟩) N N) ((n : Int) + 1) (xorF (CK n) (chk os)) = I := ⟨_, rfl⟩
                    have hIl : I.length = 18 := by rw [← hI2]; exact tot_len _ _ _
                    have hone : ∀ u ∈ I, u.oneCell' = true := by rw [← hI2]; exact one_tot _ _
                    have hbut : But q30 vc (vc.setCells q30 0 I) := (But.refl q30 vc).setCells I 0 vc
                    have k8n : (vc.setCells q30 0 I).heap[q30]? = some (.cells I.toArray 39 (0, 0)) := by
                      rw [heap_setCells _ _ _ _ _ _ _ k30, build_one _ _ (by rw [hIl]; rfl)]
                    rw [if_pos (by kernel_rfl)]
                    refine wp_store_mid 39 _ _ rfl q30 0 I.toArray rfl (by rw [← hI2]; rfl) (fun j hj => ?_) (by simp only [List.size_toArray, hIl]; exact info_total) (by simpa using hone) (hK.out _ _ ⟨hbut.os, hbut.tape, hbut.output, hbut.size, fun b hb hne => hbut.block b hb (by have : b < wr.heap.size := hne; omega)⟩ ?_)
                    · have hj' : j < 18 := by rw [← hIl]; simpa using hj
                      simp [World.cell?, World.frozen?, k30]
                      exact hj'
                    replace hz := hbut.below hz l30 hz.size
                    clear hK K2 hbut k30 rZ rY
                    have k30 := k8n
                    clear k8n
                    generalize vc.setCells q30 0 I = vd at *
                    try rw [put_noneT]
                    refine segS_batch 0 [12] (by kernel_rfl) rfl (by kernel_rfl) (by kernel_rfl) (by kernel_rfl) ?_
                    apply Exists.intro
                    refine ⟨fun ι _ φ hφ => ?_, fun v4 hv => ?_⟩
                    · repeat (refine pick_step rfl ?_; go_big_quiet_step (fail))
                      exact pick_end
                    replace hz := below_next hz hz.size hv
                    try replace k30 := keeps hv k30
                    try replace rY := rY.up hv
                    try replace rZ := rZ.up hv
                    clear hv
                    refine segS_done rfl (by kernel_rfl) ?_
                    intro v5 hv
                    replace hz := below_next hz hz.size hv
                    try replace k30 := keeps hv k30
                    try replace rY := rY.up hv
                    try replace rZ := rZ.up hv
                    clear hv
                    subst hI2
                    go_wp2
                    go_meet
                    exact ⟨q30, g30, rfl, rfl, hz, k30⟩
              case rest =>
                as_aux_lemma =>
                obtain ⟨q30, g30, rfl, rfl, hv, k30⟩ := hcut
                have hU4 := Lib.hid (hU.up hv)
                have hki4 := keeps hv hki
                have hkt4 := keeps hv hktw
                clear hv hki hktw hkcw lki lkt lkc lkb hU
                have ka4 := At0.of_block hU4.out.ka
                have k30r := At0.of_block k30
                go_wp2_with (first
                  | (refine list_load_mid _ _ _ 0 _ _ rfl rfl rfl ka4 Tryd.underlying39 rfl (by rw [tot_len]; kernel_rfl) ?_)
                  | (refine list_load_mid _ _ _ 0 _ _ rfl rfl rfl k30r Tryd.underlying39 rfl (by rw [tot_len]; kernel_rfl) ?_)
                  | (refine list_load_mid _ _ _ 0 _ _ rfl rfl rfl (At0.of_block hkt4) Tryd.underlying33 rfl (by kernel_rfl) ?_))
                refine call_then (hUc.out g30 _) ?_
                intro w30 hv
                replace hU4 := Lib.hid (hU4.out.up hv)
                replace hki4 := keeps hv hki4
                replace hkt4 := keeps hv hkt4
                clear hv hUc k30 k30r ka4
                have kb4 := At0.of_block hU4.out.kb
                have hone := Lib.hid (one_tot (A := some ⟨gb, 0, none⟩) (n := N) (cp := N) (n : Int) (CK n))
                have la := lt_of_get hU4.out.ka
                have lt9 := lt_of_get hkt4
                have lki := lt_of_get hki4
                go_upto_region 44 with (first
                  | (refine list_load_mid _ _ _ 0 _ _ rfl rfl rfl kb4 Tryd.underlying39 rfl (by rw [tot_len]; kernel_rfl) ?_)
                  | (refine list_store_whole _ _ _ _ (tot (.slice (some ⟨gb, 0, none⟩) N N) (n : Int) (CK n)) noTot 39 rfl rfl rfl rfl (alloc_at rfl) rfl (by kernel_rfl) hone.out ?_; intro w31 hbut k34))
                have hv : Below w30.heap.size w30 w31 := hbut.below ((Below.refl _ _).alloc (Nat.le_refl _) _) (Nat.le_refl _) (by simp)
                have ka5 := keeps hv hU4.out.ka
                have b5 := Lib.hid (below_next hb hb.size (hU4.out.up hv).b9)
                replace hki4 := keeps hv hki4
                replace hkt4 := keeps hv hkt4
                have l34 : w.heap.size ≤ w30.heap.size := by omega
                clear hv hbut hone kb4 hU4
                obtain ⟨q34, hq34⟩ : ∃ q34, w30.heap.size = q34 := ⟨_, rfl⟩
                rw [hq34] at k34 la lt9 lki l34 ⊢
                clear hq34
                try rw [put_noneT]
                have ho : ∀ i, i < 16 → (idc os)[i]? = some (.int .u8 ((os.getD i 0 : Nat) : Int)) ∧ os.getD i 0 < 256 := fun i hi => by
                  have hl := hos.len
                  refine ⟨?_, ?_⟩
                  · unfold idc
                    rw [List.getElem?_map, List.getElem?_eq_getElem (by omega), List.getD_eq_getElem?_getD, List.getElem?_eq_getElem (by omega)]
                    rfl
                  · rw [List.getD_eq_getElem?_getD, List.getElem?_eq_getElem (by omega)]
                    exact hos.lt _ (List.getElem_mem (by omega))
                have y0 : w31.cell? ⟨w.heap.size + 1, 0, none⟩ = some (.int .u8 ((os.getD 0 0 : Nat) : Int)) := At0.of_block hki4 0 _ (ho 0 (by decide)).1
                have y1 : w31.cell? ⟨w.heap.size + 1, 1, none⟩ = some (.int .u8 ((os.getD 1 0 : Nat) : Int)) := At0.of_block hki4 1 _ (ho 1 (by decide)).1
                have hv0 := (ho 0 (by decide)).2
                have hv1 := (ho 1 (by decide)).2
                clear ho
                obtain ⟨v0, ev0⟩ : ∃ v, os.getD 0 0 = v := ⟨_, rfl⟩
                obtain ⟨v1, ev1⟩ : ∃ v, os.getD 1 0 = v := ⟨_, rfl⟩
                rw [ev0] at y0 hv0
                rw [ev1] at y1 hv1
                clear ev0 ev1
                obtain ⟨j, ej⟩ : ∃ j, v0 % 16 = j := ⟨_, rfl⟩
                obtain ⟨d0, ed⟩ : ∃ d0, v1 % 255 = d0 := ⟨_, rfl⟩
                obtain ⟨d, ed1⟩ : ∃ d, 1 + d0 = d := ⟨_, rfl⟩
                have hj : j < 16 := by omega
                have hd0 : d0 < 255 := by omega
                have hd : d ≠ 0 ∧ d < 256 := by omega
                have t1 : (v0 : Int).tmod 16 = (j : Int) := by rw [← ej]; rfl
                have t2 : (v0 : Int) % 16 = (j : Int) := by omega
                have t3 : IntKind.u8.wrap (j : Int) = (j : Int) := by rw [IntKind.wrap_u8]; omega
                have t4 : (v1 : Int).tmod 255 = (d0 : Int) := by rw [← ed]; rfl
                have t5 : (v1 : Int) % 255 = (d0 : Int) := by omega
                have t6 : IntKind.u8.wrap (d0 : Int) = (d0 : Int) := by rw [IntKind.wrap_u8]; omega
                have t7 : IntKind.u8.wrap (1 + (d0 : Int)) = (d : Int) := by rw [IntKind.wrap_u8]; omega
                have j0 : (0 : Int) ≤ (j : Int) := by omega
                have j1 : (j : Int) < 16 := by omega
                have yc := tot_cellC k34 hj
                have hcl := hCKl.out n j hj
                have hx := u8_xor_nat (CK n j) d hcl hd.2
                have hne2 := Lib.hid (sameC_upd (c := CK n) hj (xor_ne (a := CK n j) hd.1))
                have hset := Lib.hid (tot_C (.slice (some ⟨gb, 0, none⟩) N N) (n : Int) (CK n) (k := j) (CK n j ^^^ d))
                obtain ⟨cj, ecj⟩ : ∃ cj, CK n j = cj := ⟨_, rfl⟩
                rw [ecj] at yc hx hne2 hset
                obtain ⟨xv, exv⟩ : ∃ xv, cj ^^^ d = xv := ⟨_, rfl⟩
                rw [exv] at hne2 hset
                change bits BinOp.xor IntKind.u8 _ _ = ((cj ^^^ d : Nat) : Int) at hx
                rw [exv] at hx
                clear ej ed ed1 hv0 hv1 hcl ecj exv hd0
                refine wp_region_flow1 13 (by kernel_rfl) (by kernel_rfl) (by kernel_rfl) ?_
                apply Exists.intro
                refine ⟨fun ι _ φ hφ => ?_, fun wt hwt => ?_⟩
                · have z0 := fun i => hφ.cell y0 i
                  have z1 := fun i => hφ.cell y1 i
                  have z2 := fun i => hφ.cell yc i
                  simp only [List.take_succ_cons, List.take_zero]
                  repeat (go_big_quiet_step (fail))
                  exact wpQuiet_nil rfl
                replace ka5 := keeps hwt ka5
                replace b5 := Lib.hid (below_next b5.out b5.out.size hwt)
                replace hkt4 := keeps hwt hkt4
                replace k34 := keeps hwt k34
                replace yc := cell_upU yc hwt
                clear y0 y1 hwt
                have fz : wt.frozen? ⟨q34, 2 + j, none⟩ = false := by simp [World.frozen?, k34]
                have hbut : But q34 wt (wt.setCell ⟨q34, 2 + j, none⟩ (.int .u8 (xv : Int))) := (But.refl q34 wt).set _
                have k35 := Lib.hid ((store1 (o := 2 + j) (v := .int .u8 ((xv : Nat) : Int)) k34).trans (by rw [hset.out]))
                have ka6 := Lib.hid ((hbut.block q14 (lt_of_get ka5) (by omega)).trans ka5)
                have kt6 := Lib.hid ((hbut.block q9 (lt_of_get hkt4) (by omega)).trans hkt4)
                have b6 := Lib.hid (b5.out.setCell (p := ⟨q34, 2 + j, none⟩) l34 (.int .u8 (xv : Int)))
                clear hbut hset ka5 hkt4 k34 b5
                simp only [List.drop_succ_cons, List.drop_zero]
                go_upto_region 45 with (fail)
                refine name_wp (fun wz => Below w.heap.size w wz ∧ wz.heap[q14]? = some (.cells (tot (.slice (some ⟨ga, 0, none⟩) N N) (n : Int) (CK n)).toArray 39 (0, 0)) ∧ wz.heap[q9]? = some (.cells (tcl x p s).toArray 33 (0, 0)) ∧ wz.heap[q34]? = some (.cells (tot (.slice (some ⟨gb, 0, none⟩) N N) (n : Int) (upd (CK n) j xv)).toArray 39 (0, 0))) ⟨b6.out, ka6.out, kt6.out, k35.out⟩ ?_
                clear b6 ka6 kt6 k35 yc fz
                rintro wz ⟨b6, ka6, kt6, k35⟩
                go_wp2_with (first
                  | (refine list_load_mid _ _ _ 0 _ _ rfl rfl rfl (At0.of_block ka6) Tryd.underlying39 rfl (by rw [tot_len]; kernel_rfl) ?_)
                  | (refine list_load_mid _ _ _ 0 _ _ rfl rfl rfl (At0.of_block k35) Tryd.underlying39 rfl (by rw [tot_len]; kernel_rfl) ?_)
                  | (refine list_load_mid _ _ _ 0 _ _ rfl rfl rfl (At0.of_block kt6) Tryd.underlying33 rfl (by kernel_rfl) ?_))
                refine call_then (hUk.out _ hne2.out _) ?_
                intro w40 hv
                replace b6 := below_next b6 b6.size hv
                clear hv hUk ka6 k35 kt6
                go_wp2
                go_ret
                exact ⟨rfl, b6⟩
  · have n0 : decide ((n : Int) > 12) = true := by simp; omega
    go_wp2
    go_ret
    exact ⟨rfl, hb⟩
end Go.Proofs.YtpojhomccmfffaaDoor
