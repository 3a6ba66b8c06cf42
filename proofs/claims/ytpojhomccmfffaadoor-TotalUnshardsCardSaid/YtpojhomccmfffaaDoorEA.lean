import Derived.Test.YtpojhomccmfffaaDoorDD
import Derived.Test.YtpojhomccmfffaaDoorBQ
import Derived.Test.YtpojhomccmfffaaDoorBX
import Derived.Deep.Cut
import Derived.Deep.DeepCutAuto
import Derived.Deep.CutBlock
import Derived.BigQuiet
/-
  A task: its check, whatever it is; the law's task of small numbers.
-/
namespace Go.Proofs.YtpojhomccmfffaaDoor
open Go.RowKit Flow F
set_option linter.unusedVariables false
set_option linter.unusedSimpArgs false

theorem one_listT {l : List Value} (h : l.all Value.oneCell' = true) : ∀ u ∈ l, u.oneCell' = true := fun u hu => List.all_eq_true.1 h u hu
theorem results_cellT {P : Program} {fn : Func} {tmps : Array Value} {w : World} {a : Nat} {t : TypeId} {b : Nat} {v : Value} (hr : fn.results = #[.cell a t]) (ha : tmps.getD a undef = .pointer (some ⟨b, 0, none⟩))
    (h : (loadVar t ⟨b, 0, none⟩).run P w = .ok v w) : (results fn tmps).run P w = .ok v w := by
  rw [Array.getD_eq_getD_getElem?] at ha
  simp [results, hr, asAddr, ha, h]
theorem put_noneT (a : Act) (v : Value) : a.put none v = a := rfl
theorem mid_familyT {gb : Nat → Prop} {W : World} {ι : Type} {φ : ι → World} (hφ : FamilyS gb W ι φ) {b o : Nat} {cs : List Value} (h : W.rangeAt b o cs) (hg : gb b) : ∀ w, (∃ i, w = φ i) → w.rangeAt b o cs := fun w ⟨i, e⟩ j v hj => by
  subst e
  rw [World.cell?_of_block ((hφ.old i).block _ (World.block_lt_of_cell? _ _ (h j v hj)) hg)]
  exact h j v hj
/-- Some cells of a block's. -/
theorem sub_range {w : World} {g : Nat} {cs : List Value} (h : At0 w g cs) (o : Nat) (ds : List Value) (he : (cs.drop o).take ds.length = ds) : w.rangeAt g o ds := fun j v hj => by
  have hlt : j < ds.length := (List.getElem?_eq_some_iff.1 hj).1
  have := h (o + j) v (by
    rw [← he, List.getElem?_take, if_pos hlt, List.getElem?_drop] at hj
    exact hj)
  rwa [Nat.zero_add] at this
def ccl (x : Ci) : List Value := [.int .u8 x.k, .int .u8 x.f, .int .i64 x.b, .int .i64 x.l, .int .i64 x.w, .int .i64 x.c]
def tcl (x : Ci) (p : Int) (s : ByteArray) : List Value := [.int .u8 x.k, .int .u8 x.f, .int .i64 x.b, .int .i64 x.l, .int .i64 x.w, .int .i64 x.c, .int .i64 p, .string s]
def tvl (x : Ci) (p : Int) (s : ByteArray) : Value := .agg (tcl x p s).toArray
theorem cvl_ccl (x : Ci) : cvl x = .agg (ccl x).toArray := rfl
theorem tcl_ccl (x : Ci) (p : Int) (s : ByteArray) : ((tcl x p s).drop 0).take (ccl x).length = ccl x := rfl
theorem one_tcl (x : Ci) (p : Int) (s : ByteArray) : ∀ u ∈ tcl x p s, u.oneCell' = true := fun u hu => by
  simp only [tcl, List.mem_cons, List.not_mem_nil, or_false] at hu
  rcases hu with rfl | rfl | rfl | rfl | rfl | rfl | rfl | rfl <;> rfl
def tcode (x : Ci) (p : Int) (s : ByteArray) : Int := if x.code = 0 then (if p < 1 then 6 else if 3 < p then 6 else if 32 < s.size then 6 else 0) else x.code
theorem ccheck_all (x : Ci) (w : World) : Calls Tryd.prog 52 #[.agg (ccl x).toArray] w fun e w' => e = .returned (.int .i64 x.code) ∧ Below w.heap.size w w' := ccheck_any x.k x.f x.b x.l x.w x.c w
set_option maxRecDepth 20000 in
set_option maxHeartbeats 4000000 in
theorem tcheck_any (x : Ci) (p : Int) (s : ByteArray) (hs : (s.size : Int) ≤ 9223372036854775807) (w : World) : Calls Tryd.prog 31 #[tvl x p s] w fun e w' => e = .returned (.int .i64 (tcode x p s)) ∧ Below w.heap.size w w' := by
  unfold tvl
  have hC := fun w => ccheck_all x w
  have hd : ∀ z : Int, (z == 0) = decide (z = 0) := fun z => rfl
  by_cases hc : x.code = 0
  · rw [hc] at hC
    by_cases h1 : p < 1
    · have hcode : tcode x p s = 6 := by simp only [tcode, if_pos hc, if_pos h1]
      have b1 : decide (p < 1) = true := by simpa using h1
      replace hC := Lib.hid hC
      replace hcode := Lib.hid hcode
      clear hc hd
      go_enter Tryd.func31, Tryd.ntmps31
      go_upto_region 1 with (fail)
      refine name_wp (fun w1 => Below w.heap.size w w1 ∧ w1.heap[w.heap.size]? = some (.cells (tcl x p s).toArray 33 (0, 0))) ⟨(Below.refl _ _).alloc (Nat.le_refl _) _, alloc_at rfl⟩ ?_
      rintro w1 ⟨hb, k0⟩
      have hcm : w1.rangeAt w.heap.size 0 (ccl x) := sub_range (At0.of_block k0) 0 _ (tcl_ccl x p s)
      go_wp2_with (first | (refine list_load_mid _ _ _ 0 _ _ rfl rfl rfl hcm Tryd.underlying31 rfl (by kernel_rfl) ?_))
      refine call_then (hC.out _) ?_
      intro w2 hv
      replace hb := below_next hb hb.size hv
      replace k0 := keeps hv k0
      clear hv hcm
      have c6 := At0.of_block k0 6 (.int .i64 p) rfl
      have c7 := At0.of_block k0 7 (.string s) rfl
      simp only [Nat.zero_add] at c6 c7
      clear k0 hC
      go_wp2
      go_ret
      exact ⟨by rw [hcode.out]; first | done | rfl, hb⟩
    · have b1 : decide (p < 1) = false := by simpa using h1
      by_cases h2 : 3 < p
      · have hcode : tcode x p s = 6 := by simp only [tcode, if_pos hc, if_neg h1, if_pos h2]
        have b2 : decide (p > 3) = true := by simpa using h2
        replace hC := Lib.hid hC
        replace hcode := Lib.hid hcode
        clear hc hd h1 h2
        go_enter Tryd.func31, Tryd.ntmps31
        go_upto_region 1 with (fail)
        refine name_wp (fun w1 => Below w.heap.size w w1 ∧ w1.heap[w.heap.size]? = some (.cells (tcl x p s).toArray 33 (0, 0))) ⟨(Below.refl _ _).alloc (Nat.le_refl _) _, alloc_at rfl⟩ ?_
        rintro w1 ⟨hb, k0⟩
        have hcm : w1.rangeAt w.heap.size 0 (ccl x) := sub_range (At0.of_block k0) 0 _ (tcl_ccl x p s)
        go_wp2_with (first | (refine list_load_mid _ _ _ 0 _ _ rfl rfl rfl hcm Tryd.underlying31 rfl (by kernel_rfl) ?_))
        refine call_then (hC.out _) ?_
        intro w2 hv
        replace hb := below_next hb hb.size hv
        replace k0 := keeps hv k0
        clear hv hcm
        have c6 := At0.of_block k0 6 (.int .i64 p) rfl
        have c7 := At0.of_block k0 7 (.string s) rfl
        simp only [Nat.zero_add] at c6 c7
        clear k0 hC
        go_wp2
        go_ret
        exact ⟨by rw [hcode.out]; first | done | rfl, hb⟩
      · have b2 : decide (p > 3) = false := by simpa using h2
        by_cases h3 : 32 < s.size
        · have hcode : tcode x p s = 6 := by simp only [tcode, if_pos hc, if_neg h1, if_neg h2, if_pos h3]
          have b3 : decide ((s.size : Int) > 32) = true := by rw [decide_eq_true_eq]; omega
          replace hC := Lib.hid hC
          replace hcode := Lib.hid hcode
          clear hc hd h1 h2 h3
          go_enter Tryd.func31, Tryd.ntmps31
          go_upto_region 1 with (fail)
          refine name_wp (fun w1 => Below w.heap.size w w1 ∧ w1.heap[w.heap.size]? = some (.cells (tcl x p s).toArray 33 (0, 0))) ⟨(Below.refl _ _).alloc (Nat.le_refl _) _, alloc_at rfl⟩ ?_
          rintro w1 ⟨hb, k0⟩
          have hcm : w1.rangeAt w.heap.size 0 (ccl x) := sub_range (At0.of_block k0) 0 _ (tcl_ccl x p s)
          go_wp2_with (first | (refine list_load_mid _ _ _ 0 _ _ rfl rfl rfl hcm Tryd.underlying31 rfl (by kernel_rfl) ?_))
          refine call_then (hC.out _) ?_
          intro w2 hv
          replace hb := below_next hb hb.size hv
          replace k0 := keeps hv k0
          clear hv hcm
          have c6 := At0.of_block k0 6 (.int .i64 p) rfl
          have c7 := At0.of_block k0 7 (.string s) rfl
          simp only [Nat.zero_add] at c6 c7
          clear k0 hC
          go_wp2
          go_ret
          exact ⟨by rw [hcode.out]; first | done | rfl, hb⟩
        · have hcode : tcode x p s = 0 := by simp only [tcode, if_pos hc, if_neg h1, if_neg h2, if_neg h3]
          have b3 : decide ((s.size : Int) > 32) = false := by rw [decide_eq_false_iff_not]; omega
          replace hC := Lib.hid hC
          replace hcode := Lib.hid hcode
          clear hc hd h1 h2 h3
          go_enter Tryd.func31, Tryd.ntmps31
          go_upto_region 1 with (fail)
          refine name_wp (fun w1 => Below w.heap.size w w1 ∧ w1.heap[w.heap.size]? = some (.cells (tcl x p s).toArray 33 (0, 0))) ⟨(Below.refl _ _).alloc (Nat.le_refl _) _, alloc_at rfl⟩ ?_
          rintro w1 ⟨hb, k0⟩
          have hcm : w1.rangeAt w.heap.size 0 (ccl x) := sub_range (At0.of_block k0) 0 _ (tcl_ccl x p s)
          go_wp2_with (first | (refine list_load_mid _ _ _ 0 _ _ rfl rfl rfl hcm Tryd.underlying31 rfl (by kernel_rfl) ?_))
          refine call_then (hC.out _) ?_
          intro w2 hv
          replace hb := below_next hb hb.size hv
          replace k0 := keeps hv k0
          clear hv hcm
          have c6 := At0.of_block k0 6 (.int .i64 p) rfl
          have c7 := At0.of_block k0 7 (.string s) rfl
          simp only [Nat.zero_add] at c6 c7
          clear k0 hC
          go_wp2
          go_ret
          exact ⟨by rw [hcode.out]; first | done | rfl, hb⟩
  · have hcode : tcode x p s = x.code := by simp only [tcode, if_neg hc]
    have h1 : (x.code == 0) = false := by simpa using hc
    rw [hcode]
    have hcode : x.code = x.code := rfl
    generalize x.code = z at *
    replace hC := Lib.hid hC
    replace hcode := Lib.hid hcode
    clear hc hd
    go_enter Tryd.func31, Tryd.ntmps31
    go_upto_region 1 with (fail)
    refine name_wp (fun w1 => Below w.heap.size w w1 ∧ w1.heap[w.heap.size]? = some (.cells (tcl x p s).toArray 33 (0, 0))) ⟨(Below.refl _ _).alloc (Nat.le_refl _) _, alloc_at rfl⟩ ?_
    rintro w1 ⟨hb, k0⟩
    have hcm : w1.rangeAt w.heap.size 0 (ccl x) := sub_range (At0.of_block k0) 0 _ (tcl_ccl x p s)
    go_wp2_with (first | (refine list_load_mid _ _ _ 0 _ _ rfl rfl rfl hcm Tryd.underlying31 rfl (by kernel_rfl) ?_))
    refine call_then (hC.out _) ?_
    intro w2 hv
    replace hb := below_next hb hb.size hv
    go_wp2
    go_ret
    exact ⟨by first | done | rfl, hb⟩
/-- A task that may be. -/
structure TGood (x : Ci) (p : Int) (s : ByteArray) : Prop where
  good : x.Good
  p1 : 1 ≤ p
  p3 : p ≤ 3
  s : s.size ≤ 32
theorem TGood.code {x : Ci} {p : Int} {s : ByteArray} (h : TGood x p s) : tcode x p s = 0 := by
  unfold tcode
  rw [if_pos h.good.code, if_neg (by have := h.p1; omega), if_neg (by have := h.p3; omega), if_neg (by have := h.s; omega)]
theorem tgood {x : Ci} {p : Int} {s : ByteArray} (h : tcode x p s = 0) : TGood x p s := by
  unfold tcode at h
  by_cases hc : x.code = 0
  · rw [if_pos hc] at h
    by_cases h1 : p < 1
    · rw [if_pos h1] at h; omega
    · rw [if_neg h1] at h
      by_cases h2 : 3 < p
      · rw [if_pos h2] at h; omega
      · rw [if_neg h2] at h
        by_cases h3 : 32 < s.size
        · rw [if_pos h3] at h; omega
        · exact ⟨Ci.good hc, by omega, by omega, by omega⟩
  · rw [if_neg hc] at h; exact absurd h hc
theorem tcheck_good {x : Ci} {p : Int} {s : ByteArray} (h : TGood x p s) (w : World) : Calls Tryd.prog 31 #[tvl x p s] w fun e w' => e = .returned (.int .i64 0) ∧ Below w.heap.size w w' :=
  (tcheck_any x p s (by have := h.s; omega) w).mono fun e w' ⟨he, hb⟩ => ⟨by rw [he, h.code], hb⟩
end Go.Proofs.YtpojhomccmfffaaDoor

/-
  The law's task of small numbers.
-/
namespace Go.Proofs.YtpojhomccmfffaaDoor
open Go.RowKit Flow F
set_option linter.unusedVariables false
set_option linter.unusedSimpArgs false

def tagB (t : Int) : ByteArray := if t = 0 then ⟨#[]⟩ else if t = 1 then ⟨#[116]⟩ else ⟨#[116, 97, 108, 108, 121]⟩
theorem tagB_le (t : Int) : (tagB t).size ≤ 32 := by
  unfold tagB
  split
  · decide
  · split <;> decide
def s10 (K F B L W C : Int) : List Value := [.int .u8 K, .int .u8 F, .int .u8 B, .int .u8 L, .int .u8 W, .int .u8 C]
def s13 (K F B L W C P T : Int) : List Value := [.int .u8 K, .int .u8 F, .int .u8 B, .int .u8 L, .int .u8 W, .int .u8 C, .int .u8 P, .int .u8 T]
def taskN : List Value := [.int .u8 0, .int .u8 0, .int .i64 0, .int .i64 0, .int .i64 0, .int .i64 0, .int .i64 0, .string { data := #[] }]
set_option maxRecDepth 20000 in
set_option maxHeartbeats 8000000 in
theorem task_any (K F B L W C P T : Int) (k0 : 0 ≤ K) (k1 : K ≤ 255) (f0 : 0 ≤ F) (f1 : F ≤ 255) (b0 : 0 ≤ B) (b1 : B ≤ 255) (l0 : 0 ≤ L) (l1 : L ≤ 255) (w0 : 0 ≤ W) (w1 : W ≤ 255) (c0 : 0 ≤ C) (c1 : C ≤ 255) (p0 : 0 ≤ P) (p1 : P ≤ 255) (t0 : 0 ≤ T) (t1 : T ≤ 255) (w : World) :
    Calls Tryd.prog 12 #[.agg (s13 K F B L W C P T).toArray] w fun e w' => e = .returned (tvl (smallC K F B L W C) (1 + P % 3) (tagB (T % 3))) ∧ Below w.heap.size w w' := by
  have hC := fun w => small_any K F B L W C k0 k1 f0 f1 b0 b1 l0 l1 w0 w1 c0 c1 w
  have h3 : T % 3 = 0 ∨ T % 3 = 1 ∨ T % 3 = 2 := by omega
  clear k0 k1 f0 f1 b0 b1 l0 l1 w0 w1 c0 c1
  generalize smallC K F B L W C = x at *
  unfold svl cvl at hC
  unfold tvl
  rcases h3 with h | h | h
  · rw [show tagB (T % 3) = (⟨#[]⟩ : ByteArray) by rw [h]; rfl]
    replace hC := Lib.hid hC
    go_enter Tryd.func12, Tryd.ntmps12
    go_upto_region 1 with (fail)
    refine name_wp (fun w1 => Below w.heap.size w w1 ∧ w1.heap[w.heap.size]? = some (.cells (s13 K F B L W C P T).toArray 25 (0, 0)) ∧ w1.heap[w.heap.size + 1]? = some (.cells taskN.toArray 33 (0, 0)))
      ⟨((Below.refl _ _).alloc (Nat.le_refl _) _).alloc (by simp) _, alloc_keeps (alloc_at rfl), alloc_at (by simp)⟩ ?_
    rintro w1 ⟨hb, k0, k1⟩
    obtain ⟨q, hq⟩ : ∃ q, w.heap.size = q := ⟨_, rfl⟩
    rw [hq] at k0 k1 hb ⊢
    replace hq := Lib.hid hq
    have hqw := hq.out
    refine segS_start (gb := fun _ => True) 15 (by kernel_rfl) (by decide) ?_
    intro v0 hv
    replace hb := below_next hb (by have := hb.size; omega) hv
    replace k0 := keeps hv k0
    replace k1 := keeps hv k1
    refine segS_batch 5 [0, 1, 3, 4, 5, 6, 7, 9, 10, 11] (by kernel_rfl) rfl (by kernel_rfl) (by kernel_rfl) (by kernel_rfl) ?_
    have k3 : v0.rangeAt q 0 (s10 K F B L W C) := sub_range (At0.of_block k0) 0 _ rfl
    apply Exists.intro
    refine ⟨fun ι _ φ hφ => ?_, fun v4 hv => ?_⟩
    · have d6 := fun i => mid_familyT hφ (At0.of_block k0) trivial _ ⟨i, rfl⟩ 6 _ rfl; have d7 := fun i => mid_familyT hφ (At0.of_block k0) trivial _ ⟨i, rfl⟩ 7 _ rfl; simp only [Nat.zero_add] at d6 d7
      repeat (refine pick_step rfl ?_; first
        | (refine quiet_load_mid _ _ _ 0 _ _ rfl rfl rfl (mid_familyT hφ k3 trivial) Tryd.underlying23 rfl (by kernel_rfl) ?_; simp only [Act.put, List.setIfInBounds_toArray, List.set_cons_succ, List.set_cons_zero])
        | go_big_quiet_step (fail))
      exact pick_end
    replace hb := below_next hb (by have := hb.size; omega) hv
    replace k0 := keeps hv k0
    replace k1 := keeps hv k1
    refine segS_more [2, 8] (by kernel_rfl) (by decide) ?_
    intro j hj
    simp only [List.mem_cons, List.not_mem_nil, or_false] at hj
    rcases hj with rfl | rfl
    · refine ⟨by decide, _, rfl, ?_⟩
      intro v2 K2 hv hK
      replace hb := below_next hb (by have := hb.size; omega) hv
      replace k0 := keeps hv k0
      replace k1 := keeps hv k1
      replace hK := Lib.hid hK
      go_simp
      refine (hC.out _).mono ?_
      rintro e v3 ⟨rfl, hv⟩
      refine hK.out _ _ (HeldS.of_below hv) ?_
      clear hK K2
      replace hb := below_next hb (by have := hb.size; omega) hv
      replace k0 := keeps hv k0
      replace k1 := keeps hv k1
      refine segS_one 8 _ (by decide) rfl (by kernel_rfl) ?_
      intro v5 K2 hv hK
      replace hb := below_next hb (by have := hb.size; omega) hv
      replace k0 := keeps hv k0
      replace k1 := keeps hv k1
      replace hK := Lib.hid hK
      go_simp
      have hv := (Below.refl v5.heap.size v5).alloc (Nat.le_refl _) (.cells #[.string { data := #[] }, .string { data := #[116] }, .string { data := #[116, 97, 108, 108, 121] }] 9 (0, 0))
      refine hK.out _ _ (HeldS.of_below hv) ?_
      clear hK K2
      have kt := alloc_at (w := v5) (k := v5.heap.size) (o := .cells #[.string { data := #[] }, .string { data := #[116] }, .string { data := #[116, 97, 108, 108, 121] }] 9 (0, 0)) rfl
      replace hb := below_next hb (by have := hb.size; omega) hv
      replace k0 := keeps hv k0
      replace k1 := keeps hv k1
      clear hv
      generalize v5.alloc (.cells #[.string { data := #[] }, .string { data := #[116] }, .string { data := #[116, 97, 108, 108, 121] }] 9 (0, 0)) = v6 at *
      generalize v5.heap.size = qt at *
      refine segS_batch 0 [12, 13, 14] (by kernel_rfl) rfl (by kernel_rfl) (by kernel_rfl) (by kernel_rfl) ?_
      have k3 := trivial
      apply Exists.intro
      refine ⟨fun ι _ φ hφ => ?_, fun v4 hv => ?_⟩
      · have d0 := fun i => mid_familyT hφ (At0.of_block (cs := [.string { data := #[] }, .string { data := #[116] }, .string { data := #[116, 97, 108, 108, 121] }]) kt) trivial _ ⟨i, rfl⟩ 0 _ rfl; simp only [Nat.zero_add] at d0
        repeat (refine pick_step rfl ?_; first
          | (refine quiet_load_mid _ _ _ 0 _ _ rfl rfl rfl (mid_familyT hφ k3 trivial) Tryd.underlying23 rfl (by kernel_rfl) ?_; simp only [Act.put, List.setIfInBounds_toArray, List.set_cons_succ, List.set_cons_zero])
          | go_big_quiet_step (fail))
        exact pick_end
      replace hb := below_next hb (by have := hb.size; omega) hv
      replace k0 := keeps hv k0
      replace k1 := keeps hv k1
      refine segS_tail (by kernel_rfl) ?_
      intro v9 hv
      replace hb := below_next hb (by have := hb.size; omega) hv
      replace k0 := keeps hv k0
      replace k1 := keeps hv k1
      clear hv
      simp only [List.drop_succ_cons, List.drop_zero]
      have hl1 := lt_of_get k1
      have hone := Lib.hid (one_tcl x (1 + P % 3) (⟨#[]⟩ : ByteArray))
      go_wp2_with (first | (refine list_store_whole _ _ _ _ (tcl x (1 + P % 3) (⟨#[]⟩ : ByteArray)) taskN 33 rfl rfl rfl rfl k1 rfl (by kernel_rfl) hone.out ?_; intro w7 hbut kr))
      refine calm_normal ?_
      go_wp2
      have hbe := hbut.below hb (by omega) (by omega)
      rw [← hq] at hbe
      have hld := loadVar_whole (ty := 33) (cs := tcl x (1 + P % 3) (⟨#[]⟩ : ByteArray)) _ (At0.of_block kr) Tryd.underlying33 rfl (by kernel_rfl)
      refine bodyPost_ret (v := .agg (tcl x (1 + P % 3) (⟨#[]⟩ : ByteArray)).toArray) (results_cellT Tryd.results12 rfl hld) rfl ⟨rfl, hbe⟩
    · refine ⟨by decide, _, rfl, ?_⟩
      intro v5 K2 hv hK
      replace hb := below_next hb (by have := hb.size; omega) hv
      replace k0 := keeps hv k0
      replace k1 := keeps hv k1
      replace hK := Lib.hid hK
      go_simp
      have hv := (Below.refl v5.heap.size v5).alloc (Nat.le_refl _) (.cells #[.string { data := #[] }, .string { data := #[116] }, .string { data := #[116, 97, 108, 108, 121] }] 9 (0, 0))
      refine hK.out _ _ (HeldS.of_below hv) ?_
      clear hK K2
      have kt := alloc_at (w := v5) (k := v5.heap.size) (o := .cells #[.string { data := #[] }, .string { data := #[116] }, .string { data := #[116, 97, 108, 108, 121] }] 9 (0, 0)) rfl
      replace hb := below_next hb (by have := hb.size; omega) hv
      replace k0 := keeps hv k0
      replace k1 := keeps hv k1
      clear hv
      generalize v5.alloc (.cells #[.string { data := #[] }, .string { data := #[116] }, .string { data := #[116, 97, 108, 108, 121] }] 9 (0, 0)) = v6 at *
      generalize v5.heap.size = qt at *
      refine segS_batch 2 [12, 13] (by kernel_rfl) rfl (by kernel_rfl) (by kernel_rfl) (by kernel_rfl) ?_
      have k3 := trivial
      apply Exists.intro
      refine ⟨fun ι _ φ hφ => ?_, fun v4 hv => ?_⟩
      · have d0 := fun i => mid_familyT hφ (At0.of_block (cs := [.string { data := #[] }, .string { data := #[116] }, .string { data := #[116, 97, 108, 108, 121] }]) kt) trivial _ ⟨i, rfl⟩ 0 _ rfl; simp only [Nat.zero_add] at d0
        repeat (refine pick_step rfl ?_; first
          | (refine quiet_load_mid _ _ _ 0 _ _ rfl rfl rfl (mid_familyT hφ k3 trivial) Tryd.underlying23 rfl (by kernel_rfl) ?_; simp only [Act.put, List.setIfInBounds_toArray, List.set_cons_succ, List.set_cons_zero])
          | go_big_quiet_step (fail))
        exact pick_end
      replace hb := below_next hb (by have := hb.size; omega) hv
      replace k0 := keeps hv k0
      replace k1 := keeps hv k1
      clear kt
      refine segS_one 2 _ (by decide) rfl (by kernel_rfl) ?_
      intro v2 K2 hv hK
      replace hb := below_next hb (by have := hb.size; omega) hv
      replace k0 := keeps hv k0
      replace k1 := keeps hv k1
      replace hK := Lib.hid hK
      go_simp
      refine (hC.out _).mono ?_
      rintro e v3 ⟨rfl, hv⟩
      refine hK.out _ _ (HeldS.of_below hv) ?_
      clear hK K2
      replace hb := below_next hb (by have := hb.size; omega) hv
      replace k0 := keeps hv k0
      replace k1 := keeps hv k1
      refine segS_batch 0 [14] (by kernel_rfl) rfl (by kernel_rfl) (by kernel_rfl) (by kernel_rfl) ?_
      have k3 := trivial
      apply Exists.intro
      refine ⟨fun ι _ φ hφ => ?_, fun v4 hv => ?_⟩
      · skip
        repeat (refine pick_step rfl ?_; first
          | (refine quiet_load_mid _ _ _ 0 _ _ rfl rfl rfl (mid_familyT hφ k3 trivial) Tryd.underlying23 rfl (by kernel_rfl) ?_; simp only [Act.put, List.setIfInBounds_toArray, List.set_cons_succ, List.set_cons_zero])
          | go_big_quiet_step (fail))
        exact pick_end
      replace hb := below_next hb (by have := hb.size; omega) hv
      replace k0 := keeps hv k0
      replace k1 := keeps hv k1
      refine segS_tail (by kernel_rfl) ?_
      intro v9 hv
      replace hb := below_next hb (by have := hb.size; omega) hv
      replace k0 := keeps hv k0
      replace k1 := keeps hv k1
      clear hv
      simp only [List.drop_succ_cons, List.drop_zero]
      have hl1 := lt_of_get k1
      have hone := Lib.hid (one_tcl x (1 + P % 3) (⟨#[]⟩ : ByteArray))
      go_wp2_with (first | (refine list_store_whole _ _ _ _ (tcl x (1 + P % 3) (⟨#[]⟩ : ByteArray)) taskN 33 rfl rfl rfl rfl k1 rfl (by kernel_rfl) hone.out ?_; intro w7 hbut kr))
      refine calm_normal ?_
      go_wp2
      have hbe := hbut.below hb (by omega) (by omega)
      rw [← hq] at hbe
      have hld := loadVar_whole (ty := 33) (cs := tcl x (1 + P % 3) (⟨#[]⟩ : ByteArray)) _ (At0.of_block kr) Tryd.underlying33 rfl (by kernel_rfl)
      refine bodyPost_ret (v := .agg (tcl x (1 + P % 3) (⟨#[]⟩ : ByteArray)).toArray) (results_cellT Tryd.results12 rfl hld) rfl ⟨rfl, hbe⟩
  · rw [show tagB (T % 3) = (⟨#[116]⟩ : ByteArray) by rw [h]; rfl]
    replace hC := Lib.hid hC
    go_enter Tryd.func12, Tryd.ntmps12
    go_upto_region 1 with (fail)
    refine name_wp (fun w1 => Below w.heap.size w w1 ∧ w1.heap[w.heap.size]? = some (.cells (s13 K F B L W C P T).toArray 25 (0, 0)) ∧ w1.heap[w.heap.size + 1]? = some (.cells taskN.toArray 33 (0, 0)))
      ⟨((Below.refl _ _).alloc (Nat.le_refl _) _).alloc (by simp) _, alloc_keeps (alloc_at rfl), alloc_at (by simp)⟩ ?_
    rintro w1 ⟨hb, k0, k1⟩
    obtain ⟨q, hq⟩ : ∃ q, w.heap.size = q := ⟨_, rfl⟩
    rw [hq] at k0 k1 hb ⊢
    replace hq := Lib.hid hq
    have hqw := hq.out
    refine segS_start (gb := fun _ => True) 15 (by kernel_rfl) (by decide) ?_
    intro v0 hv
    replace hb := below_next hb (by have := hb.size; omega) hv
    replace k0 := keeps hv k0
    replace k1 := keeps hv k1
    refine segS_batch 5 [0, 1, 3, 4, 5, 6, 7, 9, 10, 11] (by kernel_rfl) rfl (by kernel_rfl) (by kernel_rfl) (by kernel_rfl) ?_
    have k3 : v0.rangeAt q 0 (s10 K F B L W C) := sub_range (At0.of_block k0) 0 _ rfl
    apply Exists.intro
    refine ⟨fun ι _ φ hφ => ?_, fun v4 hv => ?_⟩
    · have d6 := fun i => mid_familyT hφ (At0.of_block k0) trivial _ ⟨i, rfl⟩ 6 _ rfl; have d7 := fun i => mid_familyT hφ (At0.of_block k0) trivial _ ⟨i, rfl⟩ 7 _ rfl; simp only [Nat.zero_add] at d6 d7
      repeat (refine pick_step rfl ?_; first
        | (refine quiet_load_mid _ _ _ 0 _ _ rfl rfl rfl (mid_familyT hφ k3 trivial) Tryd.underlying23 rfl (by kernel_rfl) ?_; simp only [Act.put, List.setIfInBounds_toArray, List.set_cons_succ, List.set_cons_zero])
        | go_big_quiet_step (fail))
      exact pick_end
    replace hb := below_next hb (by have := hb.size; omega) hv
    replace k0 := keeps hv k0
    replace k1 := keeps hv k1
    refine segS_more [2, 8] (by kernel_rfl) (by decide) ?_
    intro j hj
    simp only [List.mem_cons, List.not_mem_nil, or_false] at hj
    rcases hj with rfl | rfl
    · refine ⟨by decide, _, rfl, ?_⟩
      intro v2 K2 hv hK
      replace hb := below_next hb (by have := hb.size; omega) hv
      replace k0 := keeps hv k0
      replace k1 := keeps hv k1
      replace hK := Lib.hid hK
      go_simp
      refine (hC.out _).mono ?_
      rintro e v3 ⟨rfl, hv⟩
      refine hK.out _ _ (HeldS.of_below hv) ?_
      clear hK K2
      replace hb := below_next hb (by have := hb.size; omega) hv
      replace k0 := keeps hv k0
      replace k1 := keeps hv k1
      refine segS_one 8 _ (by decide) rfl (by kernel_rfl) ?_
      intro v5 K2 hv hK
      replace hb := below_next hb (by have := hb.size; omega) hv
      replace k0 := keeps hv k0
      replace k1 := keeps hv k1
      replace hK := Lib.hid hK
      go_simp
      have hv := (Below.refl v5.heap.size v5).alloc (Nat.le_refl _) (.cells #[.string { data := #[] }, .string { data := #[116] }, .string { data := #[116, 97, 108, 108, 121] }] 9 (0, 0))
      refine hK.out _ _ (HeldS.of_below hv) ?_
      clear hK K2
      have kt := alloc_at (w := v5) (k := v5.heap.size) (o := .cells #[.string { data := #[] }, .string { data := #[116] }, .string { data := #[116, 97, 108, 108, 121] }] 9 (0, 0)) rfl
      replace hb := below_next hb (by have := hb.size; omega) hv
      replace k0 := keeps hv k0
      replace k1 := keeps hv k1
      clear hv
      generalize v5.alloc (.cells #[.string { data := #[] }, .string { data := #[116] }, .string { data := #[116, 97, 108, 108, 121] }] 9 (0, 0)) = v6 at *
      generalize v5.heap.size = qt at *
      refine segS_batch 0 [12, 13, 14] (by kernel_rfl) rfl (by kernel_rfl) (by kernel_rfl) (by kernel_rfl) ?_
      have k3 := trivial
      apply Exists.intro
      refine ⟨fun ι _ φ hφ => ?_, fun v4 hv => ?_⟩
      · have d0 := fun i => mid_familyT hφ (At0.of_block (cs := [.string { data := #[] }, .string { data := #[116] }, .string { data := #[116, 97, 108, 108, 121] }]) kt) trivial _ ⟨i, rfl⟩ 1 _ rfl; simp only [Nat.zero_add] at d0
        repeat (refine pick_step rfl ?_; first
          | (refine quiet_load_mid _ _ _ 0 _ _ rfl rfl rfl (mid_familyT hφ k3 trivial) Tryd.underlying23 rfl (by kernel_rfl) ?_; simp only [Act.put, List.setIfInBounds_toArray, List.set_cons_succ, List.set_cons_zero])
          | go_big_quiet_step (fail))
        exact pick_end
      replace hb := below_next hb (by have := hb.size; omega) hv
      replace k0 := keeps hv k0
      replace k1 := keeps hv k1
      refine segS_tail (by kernel_rfl) ?_
      intro v9 hv
      replace hb := below_next hb (by have := hb.size; omega) hv
      replace k0 := keeps hv k0
      replace k1 := keeps hv k1
      clear hv
      simp only [List.drop_succ_cons, List.drop_zero]
      have hl1 := lt_of_get k1
      have hone := Lib.hid (one_tcl x (1 + P % 3) (⟨#[116]⟩ : ByteArray))
      go_wp2_with (first | (refine list_store_whole _ _ _ _ (tcl x (1 + P % 3) (⟨#[116]⟩ : ByteArray)) taskN 33 rfl rfl rfl rfl k1 rfl (by kernel_rfl) hone.out ?_; intro w7 hbut kr))
      refine calm_normal ?_
      go_wp2
      have hbe := hbut.below hb (by omega) (by omega)
      rw [← hq] at hbe
      have hld := loadVar_whole (ty := 33) (cs := tcl x (1 + P % 3) (⟨#[116]⟩ : ByteArray)) _ (At0.of_block kr) Tryd.underlying33 rfl (by kernel_rfl)
      refine bodyPost_ret (v := .agg (tcl x (1 + P % 3) (⟨#[116]⟩ : ByteArray)).toArray) (results_cellT Tryd.results12 rfl hld) rfl ⟨rfl, hbe⟩
    · refine ⟨by decide, _, rfl, ?_⟩
      intro v5 K2 hv hK
      replace hb := below_next hb (by have := hb.size; omega) hv
      replace k0 := keeps hv k0
      replace k1 := keeps hv k1
      replace hK := Lib.hid hK
      go_simp
      have hv := (Below.refl v5.heap.size v5).alloc (Nat.le_refl _) (.cells #[.string { data := #[] }, .string { data := #[116] }, .string { data := #[116, 97, 108, 108, 121] }] 9 (0, 0))
      refine hK.out _ _ (HeldS.of_below hv) ?_
      clear hK K2
      have kt := alloc_at (w := v5) (k := v5.heap.size) (o := .cells #[.string { data := #[] }, .string { data := #[116] }, .string { data := #[116, 97, 108, 108, 121] }] 9 (0, 0)) rfl
      replace hb := below_next hb (by have := hb.size; omega) hv
      replace k0 := keeps hv k0
      replace k1 := keeps hv k1
      clear hv
      generalize v5.alloc (.cells #[.string { data := #[] }, .string { data := #[116] }, .string { data := #[116, 97, 108, 108, 121] }] 9 (0, 0)) = v6 at *
      generalize v5.heap.size = qt at *
      refine segS_batch 2 [12, 13] (by kernel_rfl) rfl (by kernel_rfl) (by kernel_rfl) (by kernel_rfl) ?_
      have k3 := trivial
      apply Exists.intro
      refine ⟨fun ι _ φ hφ => ?_, fun v4 hv => ?_⟩
      · have d0 := fun i => mid_familyT hφ (At0.of_block (cs := [.string { data := #[] }, .string { data := #[116] }, .string { data := #[116, 97, 108, 108, 121] }]) kt) trivial _ ⟨i, rfl⟩ 1 _ rfl; simp only [Nat.zero_add] at d0
        repeat (refine pick_step rfl ?_; first
          | (refine quiet_load_mid _ _ _ 0 _ _ rfl rfl rfl (mid_familyT hφ k3 trivial) Tryd.underlying23 rfl (by kernel_rfl) ?_; simp only [Act.put, List.setIfInBounds_toArray, List.set_cons_succ, List.set_cons_zero])
          | go_big_quiet_step (fail))
        exact pick_end
      replace hb := below_next hb (by have := hb.size; omega) hv
      replace k0 := keeps hv k0
      replace k1 := keeps hv k1
      clear kt
      refine segS_one 2 _ (by decide) rfl (by kernel_rfl) ?_
      intro v2 K2 hv hK
      replace hb := below_next hb (by have := hb.size; omega) hv
      replace k0 := keeps hv k0
      replace k1 := keeps hv k1
      replace hK := Lib.hid hK
      go_simp
      refine (hC.out _).mono ?_
      rintro e v3 ⟨rfl, hv⟩
      refine hK.out _ _ (HeldS.of_below hv) ?_
      clear hK K2
      replace hb := below_next hb (by have := hb.size; omega) hv
      replace k0 := keeps hv k0
      replace k1 := keeps hv k1
      refine segS_batch 0 [14] (by kernel_rfl) rfl (by kernel_rfl) (by kernel_rfl) (by kernel_rfl) ?_
      have k3 := trivial
      apply Exists.intro
      refine ⟨fun ι _ φ hφ => ?_, fun v4 hv => ?_⟩
      · skip
        repeat (refine pick_step rfl ?_; first
          | (refine quiet_load_mid _ _ _ 0 _ _ rfl rfl rfl (mid_familyT hφ k3 trivial) Tryd.underlying23 rfl (by kernel_rfl) ?_; simp only [Act.put, List.setIfInBounds_toArray, List.set_cons_succ, List.set_cons_zero])
          | go_big_quiet_step (fail))
        exact pick_end
      replace hb := below_next hb (by have := hb.size; omega) hv
      replace k0 := keeps hv k0
      replace k1 := keeps hv k1
      refine segS_tail (by kernel_rfl) ?_
      intro v9 hv
      replace hb := below_next hb (by have := hb.size; omega) hv
      replace k0 := keeps hv k0
      replace k1 := keeps hv k1
      clear hv
      simp only [List.drop_succ_cons, List.drop_zero]
      have hl1 := lt_of_get k1
      have hone := Lib.hid (one_tcl x (1 + P % 3) (⟨#[116]⟩ : ByteArray))
      go_wp2_with (first | (refine list_store_whole _ _ _ _ (tcl x (1 + P % 3) (⟨#[116]⟩ : ByteArray)) taskN 33 rfl rfl rfl rfl k1 rfl (by kernel_rfl) hone.out ?_; intro w7 hbut kr))
      refine calm_normal ?_
      go_wp2
      have hbe := hbut.below hb (by omega) (by omega)
      rw [← hq] at hbe
      have hld := loadVar_whole (ty := 33) (cs := tcl x (1 + P % 3) (⟨#[116]⟩ : ByteArray)) _ (At0.of_block kr) Tryd.underlying33 rfl (by kernel_rfl)
      refine bodyPost_ret (v := .agg (tcl x (1 + P % 3) (⟨#[116]⟩ : ByteArray)).toArray) (results_cellT Tryd.results12 rfl hld) rfl ⟨rfl, hbe⟩
  · rw [show tagB (T % 3) = (⟨#[116, 97, 108, 108, 121]⟩ : ByteArray) by rw [h]; rfl]
    replace hC := Lib.hid hC
    go_enter Tryd.func12, Tryd.ntmps12
    go_upto_region 1 with (fail)
    refine name_wp (fun w1 => Below w.heap.size w w1 ∧ w1.heap[w.heap.size]? = some (.cells (s13 K F B L W C P T).toArray 25 (0, 0)) ∧ w1.heap[w.heap.size + 1]? = some (.cells taskN.toArray 33 (0, 0)))
      ⟨((Below.refl _ _).alloc (Nat.le_refl _) _).alloc (by simp) _, alloc_keeps (alloc_at rfl), alloc_at (by simp)⟩ ?_
    rintro w1 ⟨hb, k0, k1⟩
    obtain ⟨q, hq⟩ : ∃ q, w.heap.size = q := ⟨_, rfl⟩
    rw [hq] at k0 k1 hb ⊢
    replace hq := Lib.hid hq
    have hqw := hq.out
    refine segS_start (gb := fun _ => True) 15 (by kernel_rfl) (by decide) ?_
    intro v0 hv
    replace hb := below_next hb (by have := hb.size; omega) hv
    replace k0 := keeps hv k0
    replace k1 := keeps hv k1
    refine segS_batch 5 [0, 1, 3, 4, 5, 6, 7, 9, 10, 11] (by kernel_rfl) rfl (by kernel_rfl) (by kernel_rfl) (by kernel_rfl) ?_
    have k3 : v0.rangeAt q 0 (s10 K F B L W C) := sub_range (At0.of_block k0) 0 _ rfl
    apply Exists.intro
    refine ⟨fun ι _ φ hφ => ?_, fun v4 hv => ?_⟩
    · have d6 := fun i => mid_familyT hφ (At0.of_block k0) trivial _ ⟨i, rfl⟩ 6 _ rfl; have d7 := fun i => mid_familyT hφ (At0.of_block k0) trivial _ ⟨i, rfl⟩ 7 _ rfl; simp only [Nat.zero_add] at d6 d7
      repeat (refine pick_step rfl ?_; first
        | (refine quiet_load_mid _ _ _ 0 _ _ rfl rfl rfl (mid_familyT hφ k3 trivial) Tryd.underlying23 rfl (by kernel_rfl) ?_; simp only [Act.put, List.setIfInBounds_toArray, List.set_cons_succ, List.set_cons_zero])
        | go_big_quiet_step (fail))
      exact pick_end
    replace hb := below_next hb (by have := hb.size; omega) hv
    replace k0 := keeps hv k0
    replace k1 := keeps hv k1
    refine segS_more [2, 8] (by kernel_rfl) (by decide) ?_
    intro j hj
    simp only [List.mem_cons, List.not_mem_nil, or_false] at hj
    rcases hj with rfl | rfl
    · refine ⟨by decide, _, rfl, ?_⟩
      intro v2 K2 hv hK
      replace hb := below_next hb (by have := hb.size; omega) hv
      replace k0 := keeps hv k0
      replace k1 := keeps hv k1
      replace hK := Lib.hid hK
      go_simp
      refine (hC.out _).mono ?_
      rintro e v3 ⟨rfl, hv⟩
      refine hK.out _ _ (HeldS.of_below hv) ?_
      clear hK K2
      replace hb := below_next hb (by have := hb.size; omega) hv
      replace k0 := keeps hv k0
      replace k1 := keeps hv k1
      refine segS_one 8 _ (by decide) rfl (by kernel_rfl) ?_
      intro v5 K2 hv hK
      replace hb := below_next hb (by have := hb.size; omega) hv
      replace k0 := keeps hv k0
      replace k1 := keeps hv k1
      replace hK := Lib.hid hK
      go_simp
      have hv := (Below.refl v5.heap.size v5).alloc (Nat.le_refl _) (.cells #[.string { data := #[] }, .string { data := #[116] }, .string { data := #[116, 97, 108, 108, 121] }] 9 (0, 0))
      refine hK.out _ _ (HeldS.of_below hv) ?_
      clear hK K2
      have kt := alloc_at (w := v5) (k := v5.heap.size) (o := .cells #[.string { data := #[] }, .string { data := #[116] }, .string { data := #[116, 97, 108, 108, 121] }] 9 (0, 0)) rfl
      replace hb := below_next hb (by have := hb.size; omega) hv
      replace k0 := keeps hv k0
      replace k1 := keeps hv k1
      clear hv
      generalize v5.alloc (.cells #[.string { data := #[] }, .string { data := #[116] }, .string { data := #[116, 97, 108, 108, 121] }] 9 (0, 0)) = v6 at *
      generalize v5.heap.size = qt at *
      refine segS_batch 0 [12, 13, 14] (by kernel_rfl) rfl (by kernel_rfl) (by kernel_rfl) (by kernel_rfl) ?_
      have k3 := trivial
      apply Exists.intro
      refine ⟨fun ι _ φ hφ => ?_, fun v4 hv => ?_⟩
      · have d0 := fun i => mid_familyT hφ (At0.of_block (cs := [.string { data := #[] }, .string { data := #[116] }, .string { data := #[116, 97, 108, 108, 121] }]) kt) trivial _ ⟨i, rfl⟩ 2 _ rfl; simp only [Nat.zero_add] at d0
        repeat (refine pick_step rfl ?_; first
          | (refine quiet_load_mid _ _ _ 0 _ _ rfl rfl rfl (mid_familyT hφ k3 trivial) Tryd.underlying23 rfl (by kernel_rfl) ?_; simp only [Act.put, List.setIfInBounds_toArray, List.set_cons_succ, List.set_cons_zero])
          | go_big_quiet_step (fail))
        exact pick_end
      replace hb := below_next hb (by have := hb.size; omega) hv
      replace k0 := keeps hv k0
      replace k1 := keeps hv k1
      refine segS_tail (by kernel_rfl) ?_
      intro v9 hv
      replace hb := below_next hb (by have := hb.size; omega) hv
      replace k0 := keeps hv k0
      replace k1 := keeps hv k1
      clear hv
      simp only [List.drop_succ_cons, List.drop_zero]
      have hl1 := lt_of_get k1
      have hone := Lib.hid (one_tcl x (1 + P % 3) (⟨#[116, 97, 108, 108, 121]⟩ : ByteArray))
      go_wp2_with (first | (refine list_store_whole _ _ _ _ (tcl x (1 + P % 3) (⟨#[116, 97, 108, 108, 121]⟩ : ByteArray)) taskN 33 rfl rfl rfl rfl k1 rfl (by kernel_rfl) hone.out ?_; intro w7 hbut kr))
      refine calm_normal ?_
      go_wp2
      have hbe := hbut.below hb (by omega) (by omega)
      rw [← hq] at hbe
      have hld := loadVar_whole (ty := 33) (cs := tcl x (1 + P % 3) (⟨#[116, 97, 108, 108, 121]⟩ : ByteArray)) _ (At0.of_block kr) Tryd.underlying33 rfl (by kernel_rfl)
      refine bodyPost_ret (v := .agg (tcl x (1 + P % 3) (⟨#[116, 97, 108, 108, 121]⟩ : ByteArray)).toArray) (results_cellT Tryd.results12 rfl hld) rfl ⟨rfl, hbe⟩
    · refine ⟨by decide, _, rfl, ?_⟩
      intro v5 K2 hv hK
      replace hb := below_next hb (by have := hb.size; omega) hv
      replace k0 := keeps hv k0
      replace k1 := keeps hv k1
      replace hK := Lib.hid hK
      go_simp
      have hv := (Below.refl v5.heap.size v5).alloc (Nat.le_refl _) (.cells #[.string { data := #[] }, .string { data := #[116] }, .string { data := #[116, 97, 108, 108, 121] }] 9 (0, 0))
      refine hK.out _ _ (HeldS.of_below hv) ?_
      clear hK K2
      have kt := alloc_at (w := v5) (k := v5.heap.size) (o := .cells #[.string { data := #[] }, .string { data := #[116] }, .string { data := #[116, 97, 108, 108, 121] }] 9 (0, 0)) rfl
      replace hb := below_next hb (by have := hb.size; omega) hv
      replace k0 := keeps hv k0
      replace k1 := keeps hv k1
      clear hv
      generalize v5.alloc (.cells #[.string { data := #[] }, .string { data := #[116] }, .string { data := #[116, 97, 108, 108, 121] }] 9 (0, 0)) = v6 at *
      generalize v5.heap.size = qt at *
      refine segS_batch 2 [12, 13] (by kernel_rfl) rfl (by kernel_rfl) (by kernel_rfl) (by kernel_rfl) ?_
      have k3 := trivial
      apply Exists.intro
      refine ⟨fun ι _ φ hφ => ?_, fun v4 hv => ?_⟩
      · have d0 := fun i => mid_familyT hφ (At0.of_block (cs := [.string { data := #[] }, .string { data := #[116] }, .string { data := #[116, 97, 108, 108, 121] }]) kt) trivial _ ⟨i, rfl⟩ 2 _ rfl; simp only [Nat.zero_add] at d0
        repeat (refine pick_step rfl ?_; first
          | (refine quiet_load_mid _ _ _ 0 _ _ rfl rfl rfl (mid_familyT hφ k3 trivial) Tryd.underlying23 rfl (by kernel_rfl) ?_; simp only [Act.put, List.setIfInBounds_toArray, List.set_cons_succ, List.set_cons_zero])
          | go_big_quiet_step (fail))
        exact pick_end
      replace hb := below_next hb (by have := hb.size; omega) hv
      replace k0 := keeps hv k0
      replace k1 := keeps hv k1
      clear kt
      refine segS_one 2 _ (by decide) rfl (by kernel_rfl) ?_
      intro v2 K2 hv hK
      replace hb := below_next hb (by have := hb.size; omega) hv
      replace k0 := keeps hv k0
      replace k1 := keeps hv k1
      replace hK := Lib.hid hK
      go_simp
      refine (hC.out _).mono ?_
      rintro e v3 ⟨rfl, hv⟩
      refine hK.out _ _ (HeldS.of_below hv) ?_
      clear hK K2
      replace hb := below_next hb (by have := hb.size; omega) hv
      replace k0 := keeps hv k0
      replace k1 := keeps hv k1
      refine segS_batch 0 [14] (by kernel_rfl) rfl (by kernel_rfl) (by kernel_rfl) (by kernel_rfl) ?_
      have k3 := trivial
      apply Exists.intro
      refine ⟨fun ι _ φ hφ => ?_, fun v4 hv => ?_⟩
      · skip
        repeat (refine pick_step rfl ?_; first
          | (refine quiet_load_mid _ _ _ 0 _ _ rfl rfl rfl (mid_familyT hφ k3 trivial) Tryd.underlying23 rfl (by kernel_rfl) ?_; simp only [Act.put, List.setIfInBounds_toArray, List.set_cons_succ, List.set_cons_zero])
          | go_big_quiet_step (fail))
        exact pick_end
      replace hb := below_next hb (by have := hb.size; omega) hv
      replace k0 := keeps hv k0
      replace k1 := keeps hv k1
      refine segS_tail (by kernel_rfl) ?_
      intro v9 hv
      replace hb := below_next hb (by have := hb.size; omega) hv
      replace k0 := keeps hv k0
      replace k1 := keeps hv k1
      clear hv
      simp only [List.drop_succ_cons, List.drop_zero]
      have hl1 := lt_of_get k1
      have hone := Lib.hid (one_tcl x (1 + P % 3) (⟨#[116, 97, 108, 108, 121]⟩ : ByteArray))
      go_wp2_with (first | (refine list_store_whole _ _ _ _ (tcl x (1 + P % 3) (⟨#[116, 97, 108, 108, 121]⟩ : ByteArray)) taskN 33 rfl rfl rfl rfl k1 rfl (by kernel_rfl) hone.out ?_; intro w7 hbut kr))
      refine calm_normal ?_
      go_wp2
      have hbe := hbut.below hb (by omega) (by omega)
      rw [← hq] at hbe
      have hld := loadVar_whole (ty := 33) (cs := tcl x (1 + P % 3) (⟨#[116, 97, 108, 108, 121]⟩ : ByteArray)) _ (At0.of_block kr) Tryd.underlying33 rfl (by kernel_rfl)
      refine bodyPost_ret (v := .agg (tcl x (1 + P % 3) (⟨#[116, 97, 108, 108, 121]⟩ : ByteArray)).toArray) (results_cellT Tryd.results12 rfl hld) rfl ⟨rfl, hbe⟩
theorem task_good (K F B L W C P T : Int) (p0 : 0 ≤ P) : TGood (smallC K F B L W C) (1 + P % 3) (tagB (T % 3)) := ⟨small_good K F B L W C, by omega, by omega, tagB_le _⟩
end Go.Proofs.YtpojhomccmfffaaDoor
