/-
  A task: its check, whatever it is; the law's task of small numbers.
-/
import Derived.Test.YtpojhomccmfffaaDoorDD
import Derived.Test.YtpojhomccmfffaaDoorBQ
import Derived.Test.YtpojhomccmfffaaDoorBX
import Derived.Deep.Cut
import Derived.Deep.DeepCutAuto
import Derived.Deep.CutBlock
import Derived.BigQuiet
namespace Go.Proofs.YtpojhomccmfffaaDoor
open Go.RowKit Flow F
set_option linter.unusedVariables false
set_option linter.unusedSimpArgs false

theorem one_listT {l : List Value} (h : l.all Value.oneCell' = true) : ∀ u ∈ l, u.oneCell' = true := fun u hu => List.all_eq_true.1 h u hu
theorem results_cellT {P : Program} {fn : Func} {tmps : Array Value} {w : World} {a : Nat} {t : TypeId} {b : Nat} {v : Value} (hr : fn.results = #[.cell a t]) (ha : tmps.getD a undef = .pointer (some ⟨b, 0, none⟩))
    (h : (loadVar t ⟨b, 0, none⟩).run P w = .ok v w) : (results fn tmps).run P w = .ok v w := by
  rw [Array.getD_eq_getD_getElem?] at ha
  simp [results, hr, asAddr, ha, h]
theorem put_noneT (a : Act) (v : Value) : a.put none v = a := rfl
theorem mid_familyT {gb : Nat → Prop} {W : World} {ι : Type} {φ : ι → World} (hφ : FamilyS gb W ι φ) {b o : Nat} {cs : List Value} (h : W.rangeAt b o cs) (hg : gb b) : ∀ w, (∃ i, w = φ i) → w.rangeAt b o cs := fun w ⟨i, e⟩ j v hj => by
  subst e
  rw [World.cell?_of_block ((hφ.old i).block _ (World.block_lt_of_cell? _ _ (h j v hj)) hg)]
  exact h j v hj
/-- Some cells of a block's. -/
theorem sub_range {w : World} {g : Nat} {cs : List Value} (h : At0 w g cs) (o : Nat) (ds : List Value) (he : (cs.drop o).take ds.length = ds) : w.rangeAt g o ds := fun j v hj => by
  have hlt : j < ds.length := (List.getElem?_eq_some_iff.1 hj).1
  have := h (o + j) v (by
    rw [← he, List.getElem?_take, if_pos hlt, List.getElem?_drop] at hj
    exact hj)
  rwa [Nat.zero_add] at this
def ccl (x : Ci) : List Value := [.int .u8 x.k, .int .u8 x.f, .int .i64 x.b, .int .i64 x.l, .int .i64 x.w, .int .i64 x.c]
def tcl (x : Ci) (p : Int) (s : ByteArray) : List Value := [.int .u8 x.k, .int .u8 x.f, .int .i64 x.b, .int .i64 x.l, .int .i64 x.w, .int .i64 x.c, .int .i64 p, .string s]
def tvl (x : Ci) (p : Int) (s : ByteArray) : Value := .agg (tcl x p s).toArray
theorem cvl_ccl (x : Ci) : cvl x = .agg (ccl x).toArray := rfl
theorem tcl_ccl (x : Ci) (p : Int) (s : ByteArray) : ((tcl x p s).drop 0).take (ccl x).length = ccl x := rfl
theorem one_tcl (x : Ci) (p : Int) (s : ByteArray) : ∀ u ∈ tcl x p s, u.oneCell' = true := fun u hu => by
  simp only [tcl, List.mem_cons, List.not_mem_nil, or_false] at hu
  rcases hu with rfl | rfl | rfl | rfl | rfl | rfl | rfl | rfl <;> rfl
def tcode (x : Ci) (p : Int) (s : ByteArray) : Int := if x.code = 0 then (if p < 1 then 6 else if 3 < p then 6 else if 32 < s.size then 6 else 0) else x.code
theorem ccheck_all (x : Ci) (w : World) : Calls Tryd.prog 52 #[.agg (ccl x).toArray] w fun e w' => e = .returned (.int .i64 x.code) ∧ Below w.heap.size w w' := ccheck_any x.k x.f x.b x.l x.w x.c w
set_option maxRecDepth 20000 in
set_option maxHeartbeats 4000000 in
theorem tcheck_any (x : Ci) (p : Int) (s : ByteArray) (hs : (s.size : Int) ≤ 9223372036854775807) (w : World) : Calls Tryd.prog 31 #[tvl x p s] w fun e w' => e = .returned (.int .i64 (tcode x p s)) ∧ Below w.heap.size w w' := by
  unfold tvl
  have hC := fun w => ccheck_all x w
  have hd : ∀ z : Int, (z == 0) = decide (z = 0) := fun z => rfl
  by_cases hc : x.code = 0
  · rw [hc] at hC
    by_cases h1 : p < 1
    · have hcode : tcode x p s = 6 := by simp only [tcode, if_pos hc, if_pos h1]
      have b1 : decide (p < 1) = true := by simpa using h1
      replace hC := Lib.hid hC
      replace hcode := Lib.hid hcode
      clear hc hd
      go_enter Tryd.func31, Tryd.ntmps31
      go_upto_region 1 with (fail)
      refine name_wp (fun w1 => Below w.heap.size w w1 ∧ w1.heap[w.heap.size]? = some (.cells (tcl x p s).toArray 33 (0, 0))) ⟨(Below.refl _ _).alloc (Nat.le_refl _) _, alloc_at rfl⟩ ?_
      rintro w1 ⟨hb, k0⟩
      have hcm : w1.rangeAt w.heap.size 0 (ccl x) := sub_range (At0.of_block k0) 0 _ (tcl_ccl x p s)
      go_wp2_with (first | (refine list_load_mid _ _ _ 0 _ _ rfl rfl rfl hcm Tryd.underlying31 rfl (by kernel_rfl) ?_))
      refine call_then (hC.out _) ?_
      intro w2 hv
      replace hb := below_next hb hb.size hv
      replace k0 := keeps hv k0
      clear hv hcm
      have c6 := At0.of_block k0 6 (.int .i64 p) rfl
      have c7 := At0.of_block k0 7 (.string s) rfl
      simp only [Nat.zero_add] at c6 c7
      clear k0 hC
      go_wp2
      go_ret
      exact ⟨by rw [hcode.out]; first | done | rfl, hb⟩
    · have b1 : decide (p < 1) = false := by simpa using h1
      by_cases h2 : 3 < p
      · have hcode : tcode x p s = 6 := by simp only [tcode, if_pos hc, if_neg h1, if_pos h2]
        have b2 : decide (p > 3) = true := by simpa using h2
        replace hC := Lib.hid hC
        replace hcode := Lib.hid hcode
        clear hc hd h1 h2
        go_enter Tryd.func31, Tryd.ntmps31
        go_upto_region 1 with (fail)
        refine name_wp (fun w1 => Below w.heap.size w w1 ∧ w1.heap[w.heap.size]? = some (.cells (tcl x p s).toArray 33 (0, 0))) ⟨(Below.refl _ _).alloc (Nat.le_refl _) _, alloc_at rfl⟩ ?_
        rintro w1 ⟨hb, k0⟩
        have hcm : w1.rangeAt w.heap.size 0 (ccl x) := sub_range (At0.of_block k0) 0 _ (tcl_ccl x p s)
        go_wp2_with (first | (refine list_load_mid _ _ _ 0 _ _ rfl rfl rfl hcm Tryd.underlying31 rfl (by kernel_rfl) ?_))
        refine call_then (hC.out _) ?_
        intro w2 hv
        replace hb := below_next hb hb.size hv
        replace k0 := keeps hv k0
        clear hv hcm
        have c6 := At0.of_block k0 6 (.int .i64 p) rfl
        have c7 := At0.of_block k0 7 (.string s) rfl
        simp only [Nat.zero_add] at c6 c7
        clear k0 hC
        go_wp2
        go_ret
        exact ⟨by rw [hcode.out]; first | done | rfl, hb⟩
      · have b2 : decide (p > 3) = false := by simpa using h2
        by_cases h3 : 32 < s.size
        · have hcode : tcode x p s = 6 := by simp only [tcode, if_pos hc, if_neg h1, if_neg h2, if_pos h3]
          have b3 : decide ((s.size : Int) > 32) = true := by rw [decide_eq_true_eq]; omega
          replace hC := Lib.hid hC
          replace hcode := Lib.hid hcode
          clear hc hd h1 h2 h3
          go_enter Tryd.func31, Tryd.ntmps31
          go_upto_region 1 with (fail)
          refine name_wp (fun w1 => Below w.heap.size w w1 ∧ w1.heap[w.heap.size]? = some (.cells (tcl x p s).toArray 33 (0, 0))) ⟨(Below.refl _ _).alloc (Nat.le_refl _) _, alloc_at rfl⟩ ?_
          rintro w1 ⟨hb, k0⟩
          have hcm : w1.rangeAt w.heap.size 0 (ccl x) := sub_range (At0.of_block k0) 0 _ (tcl_ccl x p s)
          go_wp2_with (first | (refine list_load_mid _ _ _ 0 _ _ rfl rfl rfl hcm Tryd.underlying31 rfl (by kernel_rfl) ?_))
          refine call_then (hC.out _) ?_
          intro w2 hv
          replace hb := below_next hb hb.size hv
          replace k0 := keeps hv k0
          clear hv hcm
          have c6 := At0.of_block k0 6 (.int .i64 p) rfl
          have c7 := At0.of_block k0 7 (.string s) rfl
          simp only [Nat.zero_add] at c6 c7
          clear k0 hC
          go_wp2
          go_ret
          exact ⟨by rw [hcode.out]; first | done | rfl, hb⟩
        · have hcode : tcode x p s = 0 := by simp only [tcode, if_pos hc, if_neg h1, if_neg h2, if_neg h3]
          have b3 : decide ((s.size : Int) > 32) = false := by rw [decide_eq_false_iff_not]; omega
          replace hC := Lib.hid hC
          replace hcode := Lib.hid hcode
          clear hc hd h1 h2 h3
          go_enter Tryd.func31, Tryd.ntmps31
          go_upto_region 1 with (fail)
          refine name_wp (fun w1 => Below w.heap.size w w1 ∧ w1.heap[w.heap.size]? = some (.cells (tcl x p s).toArray 33 (0, 0))) ⟨(Below.refl _ _).alloc (Nat.le_refl _) _, alloc_at rfl⟩ ?_
          rintro w1 ⟨hb, k0⟩
          have hcm : w1.rangeAt w.heap.size 0 (ccl x) := sub_range (At0.of_block k0) 0 _ (tcl_ccl x p s)
          go_wp2_with (first | (refine list_load_mid _ _ _ 0 _ _ rfl rfl rfl hcm Tryd.underlying31 rfl (by kernel_rfl) ?_))
          refine call_then (hC.out _) ?_
          intro w2 hv
          replace hb := below_next hb hb.size hv
          replace k0 := keeps hv k0
          clear hv hcm
          have c6 := At0.of_block k0 6 (.int .i64 p) rfl
          have c7 := At0.of_block k0 7 (.string s) rfl
          simp only [Nat.zero_add] at c6 c7
          clear k0 hC
          go_wp2
          go_ret
          exact ⟨by rw [hcode.out]; first | done | rfl, hb⟩
  · have hcode : tcode x p s = x.code := by simp only [tcode, if_neg hc]
    have h1 : (x.code == 0) = false := by simpa using hc
    rw [hcode]
    have hcode : x.code = x.code := rfl
    generalize x.code = z at *
    replace hC := Lib.hid hC
    replace hcode := Lib.hid hcode
    clear hc hd
    go_enter Tryd.func31, Tryd.ntmps31
    go_upto_region 1 with (fail)
    refine name_wp (fun w1 => Below w.heap.size w w1 ∧ w1.heap[w.heap.size]? = some (.cells (tcl x p s).toArray 33 (0, 0))) ⟨(Below.refl _ _).alloc (Nat.le_refl _) _, alloc_at rfl⟩ ?_
    rintro w1 ⟨hb, k0⟩
    have hcm : w1.rangeAt w.heap.size 0 (ccl x) := sub_range (At0.of_block k0) 0 _ (tcl_ccl x p s)
    go_wp2_with (first | (refine list_load_mid _ _ _ 0 _ _ rfl rfl rfl hcm Tryd.underlying31 rfl (by kernel_rfl) ?_))
    refine call_then (hC.out _) ?_
    intro w2 hv
    replace hb := below_next hb hb.size hv
    go_wp2
    go_ret
    exact ⟨by first | done | rfl, hb⟩
/-- A task that may be. -/
structure TGood (x : Ci) (p : Int) (s : ByteArray) : Prop where
  good : x.Good
  p1 : 1 ≤ p
  p3 : p ≤ 3
  s : s.size ≤ 32
theorem TGood.code {x : Ci} {p : Int} {s : ByteArray} (h : TGood x p s) : tcode x p s = 0 := by
  unfold tcode
  rw [if_pos h.good.code, if_neg (by have := h.p1; omega), if_neg (by have := h.p3; omega), if_neg (by have := h.s; omega)]
theorem tgood {x : Ci} {p : Int} {s : ByteArray} (h : tcode x p s = 0) : TGood x p s := by
  unfold tcode at h
  by_cases hc : x.code = 0
  · rw [if_pos hc] at h
    by_cases h1 : p < 1
    · rw [if_pos h1] at h; omega
    · rw [if_neg h1] at h
      by_cases h2 : 3 < p
      · rw [if_pos h2] at h; omega
      · rw [if_neg h2] at h
        by_cases h3 : 32 < s.size
        · rw [if_pos h3] at h; omega
        · exact ⟨Ci.good hc, by omega, by omega, by omega⟩
  · rw [if_neg hc] at h; exact absurd h hc
theorem tcheck_good {x : Ci} {p : Int} {s : ByteArray} (h : TGood x p s) (w : World) : Calls Tryd.prog 31 #[tvl x p s] w fun e w' => e = .returned (.int .i64 0) ∧ Below w.heap.size w w' :=
  (tcheck_any x p s (by have := h.s; omega) w).mono fun e w' ⟨he, hb⟩ => ⟨by rw [he, h.code], hb⟩
end Go.Proofs.YtpojhomccmfffaaDoor
