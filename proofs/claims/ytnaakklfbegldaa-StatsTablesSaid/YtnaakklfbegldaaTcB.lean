/-
  A table's rows by where their windows begin: where one stands among them.
-/
import Derived.Test.YtnaakklfbegldaaTcA
import Derived.Deep.Cut
import Derived.Deep.DeepCutAuto
import Derived.Deep.CutBlock
namespace Go.Proofs.Ytnaakklfbegldaa
open Go.RowKit Flow
set_option linter.unusedVariables false
set_option linter.unusedSimpArgs false

/-- A row of a table: its numbers lie at an address. -/
structure TR where
  t : Int
  m : Int
  A : Option Addr
  c : Nat
  xs : List Nat
def TR.cells (s : TR) : List Value := rowc s.t s.m (.slice s.A s.xs.length s.c)
theorem TR.len (s : TR) : s.cells.length = 3 := rfl
def rowT (l : List TR) : List Value := l.flatMap TR.cells
def tnth (l : List TR) (i : Nat) : TR := l.getD i ⟨0, 0, none, 0, []⟩
theorem tnth_mem {l : List TR} {i : Nat} (h : i < l.length) : tnth l i ∈ l := by
  unfold tnth
  rw [List.getD_eq_getElem?_getD, List.getElem?_eq_getElem h]
  exact List.getElem_mem h
theorem tnth_is {l : List TR} {i : Nat} (h : i < l.length) : tnth l i = l[i] := by
  unfold tnth
  rw [List.getD_eq_getElem?_getD, List.getElem?_eq_getElem h]
  rfl
theorem rowT_len : ∀ (l : List TR), (rowT l).length = l.length * 3
  | [] => rfl
  | s :: l => by
    have ih := rowT_len l
    unfold rowT at *
    rw [List.flatMap_cons, List.length_append, ih, s.len, List.length_cons]
    omega
theorem rowT_drop : ∀ (l : List TR) (i : Nat), (rowT l).drop (i * 3) = rowT (l.drop i)
  | [], i => by simp [rowT]
  | s :: l, 0 => by simp
  | s :: l, i + 1 => by
    have ih := rowT_drop l i
    have e : rowT (s :: l) = s.cells ++ rowT l := by unfold rowT; rw [List.flatMap_cons]
    rw [e, show (i + 1) * 3 = s.cells.length + i * 3 by rw [s.len]; omega, List.drop_length_add_append, ih]
    rfl
theorem rowT_take : ∀ (l : List TR) (i : Nat), (rowT l).take (i * 3) = rowT (l.take i)
  | [], i => by simp [rowT]
  | s :: l, 0 => by simp [rowT]
  | s :: l, i + 1 => by
    have ih := rowT_take l i
    have e : rowT (s :: l) = s.cells ++ rowT l := by unfold rowT; rw [List.flatMap_cons]
    rw [e, show (i + 1) * 3 = s.cells.length + i * 3 by rw [s.len]; omega, List.take_length_add_append, ih, List.take_succ_cons]
    unfold rowT
    rw [List.flatMap_cons]
theorem rowT_ins (l : List TR) (s : TR) (i : Nat) : (rowT l).take (i * 3) ++ s.cells ++ (rowT l).drop (i * 3) = rowT (l.take i ++ s :: l.drop i) := by
  rw [rowT_take, rowT_drop]
  unfold rowT
  rw [List.flatMap_append, List.flatMap_cons, List.append_assoc]
theorem rowT_one {l : List TR} : ∀ u ∈ rowT l, u.oneCell' = true := fun u hu => by
  unfold rowT at hu
  rw [List.mem_flatMap] at hu
  obtain ⟨s, _, hs⟩ := hu
  exact rowc_one u hs
theorem rowT_at {l : List TR} {i : Nat} (hi : i < l.length) {j : Nat} {u : Value} (hj : (tnth l i).cells[j]? = some u) : (rowT l)[i * 3 + j]? = some u := by
  rw [← List.getElem?_drop, rowT_drop, List.drop_eq_getElem_cons hi]
  rw [tnth_is hi] at hj
  unfold rowT
  rw [List.flatMap_cons, List.getElem?_append_left (List.getElem?_eq_some_iff.1 hj).1]
  exact hj
theorem trow_at {w : World} {base g n cap : Nat} {l : List TR} (hown : w.ownsRow base 29 3 (.slice (some ⟨g, 0, none⟩) n cap) n (rowT l)) {i : Nat} (hi : i < l.length) : w.rangeAt g (i * 3) (tnth l i).cells := fun j u hj => by
  have := hown.cells (g := g) rfl (i * 3 + j) u (rowT_at hi hj)
  rwa [Addr.add_mid, Nat.zero_add] at this
def TRising (l : List TR) : Prop := ∀ i j, i < j → j < l.length → (tnth l i).t < (tnth l j).t
structure TPlace (l : List TR) (y : Int) (k : Nat) : Prop where
  le : k ≤ l.length
  lo : ∀ i, i < k → (tnth l i).t < y
  hi : ∀ i, k ≤ i → i < l.length → y ≤ (tnth l i).t
def thasB (l : List TR) (y : Int) (k : Nat) : Bool := decide (k < l.length) && decide ((tnth l k).t = y)
theorem TPlace.uniq {l : List TR} {y : Int} {k m : Nat} (h : TPlace l y k) (h2 : TPlace l y m) : k = m := by
  rcases Nat.lt_trichotomy k m with hl | he | hl
  · have a := h2.lo k hl
    have b := h.hi k (Nat.le_refl _) (by have := h2.le; omega)
    omega
  · exact he
  · have a := h.lo m hl
    have b := h2.hi m (Nat.le_refl _) (by have := h.le; omega)
    omega
def cmpU (a b : Int) : Int := if a < b then -1 else if b < a then 1 else 0
theorem cmp_any (a b : Int) (w : World) : Calls Try.prog 42 #[.int .u64 a, .int .u64 b] w fun e w' => e = .returned (.int .i64 (cmpU a b)) ∧ Below w.heap.size w w' := by
  have hn : ∀ a w, Calls Try.prog 50 #[.int .u64 a] w fun e w' => e = .returned (.bool false) ∧ Below w.heap.size w w' := fun a w => by
    go_enter Try.func50, Try.ntmps50
    go_wp2
    go_ret
    exact ⟨rfl, Below.refl _ _⟩
  replace hn := Lib.hid hn
  by_cases h1 : a < b
  · rw [show cmpU a b = -1 by unfold cmpU; rw [if_pos h1]]
    go_enter Try.func42, Try.ntmps42
    go_wp2_with fail
    refine call_then (hn.out _ _) ?_
    intro w1 hb
    go_wp2_with fail
    refine call_then (hn.out _ _) ?_
    intro w2 hv
    replace hb := below_next hb hb.size hv
    clear hv hn
    go_wp2
    go_ret
    exact ⟨rfl, hb⟩
  · by_cases h2 : b < a
    · rw [show cmpU a b = 1 by unfold cmpU; rw [if_neg h1, if_pos h2]]
      go_enter Try.func42, Try.ntmps42
      go_wp2_with fail
      refine call_then (hn.out _ _) ?_
      intro w1 hb
      go_wp2_with fail
      refine call_then (hn.out _ _) ?_
      intro w2 hv
      replace hb := below_next hb hb.size hv
      clear hv hn
      go_wp2
      go_ret
      exact ⟨rfl, hb⟩
    · rw [show cmpU a b = 0 by unfold cmpU; rw [if_neg h1, if_neg h2]]
      go_enter Try.func42, Try.ntmps42
      go_wp2_with fail
      refine call_then (hn.out _ _) ?_
      intro w1 hb
      go_wp2_with fail
      refine call_then (hn.out _ _) ?_
      intro w2 hv
      replace hb := below_next hb hb.size hv
      clear hv hn
      go_wp2
      go_ret
      exact ⟨rfl, hb⟩
theorem cmpU_neg (a b : Int) : decide (cmpU a b < 0) = decide (a < b) := by
  unfold cmpU
  by_cases h1 : a < b
  · rw [if_pos h1]; simp [h1]
  · rw [if_neg h1]
    by_cases h2 : b < a
    · rw [if_pos h2]; simp [h1]
    · rw [if_neg h2]; simp [h1]
theorem cmpU_zero (a b : Int) : (cmpU a b == 0) = decide (a = b) := by
  unfold cmpU
  by_cases h1 : a < b
  · rw [if_pos h1, decide_eq_false (by omega)]; rfl
  · rw [if_neg h1]
    by_cases h2 : b < a
    · rw [if_pos h2, decide_eq_false (by omega)]; rfl
    · rw [if_neg h2, decide_eq_true (by omega)]; rfl
set_option maxHeartbeats 1000000 in
theorem tfindc_any (s : TR) (y : Int) (w : World) : Calls Try.prog 41 #[.agg s.cells.toArray, .int .u64 y] w fun e w' => e = .returned (.int .i64 (cmpU s.t y)) ∧ Below w.heap.size w w' := by
  have hcmp := Lib.hid (cmp_any s.t y)
  unfold TR.cells
  generalize Value.slice s.A s.xs.length s.c = v at *
  generalize cmpU s.t y = r at *
  generalize s.t = t at *
  generalize s.m = m at *
  unfold rowc
  go_enter Try.func41, Try.ntmps41
  go_upto_region 1 with (fail)
  refine name_wp (fun w1 => Below w.heap.size w w1 ∧ w1.heap[w.heap.size]? = some (.cells #[.int .u64 t, .int .i64 m, v] 29 (0, 0))) ⟨(Below.refl _ _).alloc (Nat.le_refl _) _, alloc_at rfl⟩ ?_
  rintro w1 ⟨hb, k0⟩
  obtain ⟨c0, c1, c2, _, _, _⟩ := blk3t k0
  go_wp2_with fail
  refine call_then (hcmp.out _) ?_
  intro w2 hv
  replace hb := below_next hb hb.size hv
  clear hv
  go_wp2
  go_ret
  exact ⟨rfl, hb⟩
theorem range_up3 {w w' : World} {g o : Nat} {cs : List Value} (h : w.rangeAt g o cs) (hb : Below w.heap.size w w') : w'.rangeAt g o cs := range_up2 h hb
set_option maxRecDepth 20000 in
set_option maxHeartbeats 4000000 in
theorem tsearch_any (l : List TR) (hr : TRising l) (n : Nat) (hl : l.length = n) (hn : n ≤ 300) (y : Int) (g cap base : Nat) (w : World) (hown : w.ownsRow base 29 3 (.slice (some ⟨g, 0, none⟩) n cap) n (rowT l)) :
    Calls Try.prog 40 #[.slice (some ⟨g, 0, none⟩) n cap, .int .u64 y, .func (.func 41) #[] #[]] w fun e w' => ∃ k, TPlace l y k ∧ e = .returned (.tuple #[.int .i64 (k : Int), .bool (thasB l y k)]) ∧ Below w.heap.size w w' := by
  have hcl : ∀ i, i < n → w.rangeAt g (i * 3) (tnth l i).cells := fun i hi => trow_at hown (by omega)
  have hcm : ∀ i, i < n → ∀ w, Calls Try.prog 41 #[.agg (tnth l i).cells.toArray, .int .u64 y] w fun e w' => e = .returned (.int .i64 (cmpU (tnth l i).t y)) ∧ Below w.heap.size w w' := fun i hi w => tfindc_any _ y w
  have hdn : ∀ i j, i < j → j < n → (tnth l j).t < y → (tnth l i).t < y := fun i j hij hj h => Int.lt_trans (hr i j hij (by omega)) h
  replace hcl := Lib.hid hcl
  replace hcm := Lib.hid hcm
  replace hdn := Lib.hid hdn
  replace hl := Lib.hid hl
  have h3 : ∀ i, ((Try.prog).info? 29).map (·.size) = some (tnth l i).cells.length := fun i => by rw [TR.len]; kernel_rfl
  replace h3 := Lib.hid h3
  clear hown hr
  go_enter Try.func40, Try.ntmps40
  go_upto_region 1 with (fail)
  refine name_wp (fun w1 => Below w.heap.size w w1) (Below.refl _ _) ?_
  rintro w1 hb
  go_wp2
  go_loopw [9, 10] (fun i j wr => ∃ a b : Nat, a ≤ b ∧ b ≤ n ∧ i = .int .i64 (a : Int) ∧ j = .int .i64 (b : Int) ∧ Hid (∀ t, t < a → (tnth l t).t < y) ∧ Hid (∀ t, b ≤ t → t < n → y ≤ (tnth l t).t) ∧ Below w.heap.size w wr) (fun i j _ => (intOf j).toNat - (intOf i).toNat)
  case atStart => exact ⟨0, n, Nat.zero_le _, Nat.le_refl _, rfl, rfl, Lib.hid (fun t ht => absurd ht (Nat.not_lt_zero _)), Lib.hid (fun t h1 h2 => absurd h1 (by omega)), hb⟩
  case round =>
    clear hb
    obtain ⟨a, b, hab, hbn, rfl, rfl, hlo, hhi, hb⟩ := hrel
    by_cases hlt : a < b
    · have e1 : (a : Int) < (b : Int) := by omega
      obtain ⟨h, hh⟩ : ∃ h, (a + b) / 2 = h := ⟨_, rfl⟩
      obtain ⟨s, hs⟩ : ∃ s, a + b = s := ⟨_, rfl⟩
      have z0 : (a : Int) + (b : Int) = (s : Int) := by omega
      have z1 : IntKind.i64.wrap ((a : Int) + (b : Int)) = (s : Int) := by rw [IntKind.wrap_i64]; omega
      have z2 : IntKind.u64.wrap (s : Int) = (s : Int) := by rw [IntKind.wrap_u64]; omega
      have z3 : (s : Int) / 2 = (h : Int) := by omega
      have z5 : (s : Int) / 2 ^ 1 = (h : Int) := by omega
      have z4 : IntKind.i64.wrap (h : Int) = (h : Int) := by rw [IntKind.wrap_i64]; omega
      have h0 : (0 : Int) ≤ (h : Int) := by omega
      have hhn : h < n := by omega
      have h1 : (h : Int) < (n : Int) := by omega
      have hah : a ≤ h ∧ h < b := by omega
      replace hh := Lib.hid hh
      replace hs := Lib.hid hs
      have hgh := range_up2 (hcl.out h hhn) hb
      have hq := hcm.out h hhn
      have hi3 := h3.out h
      have hng := cmpU_neg (tnth l h).t y
      generalize cmpU (tnth l h).t y = z at *
      generalize (tnth l h).cells = cs at *
      replace hq := Lib.hid hq
      replace hng := Lib.hid hng
      go_wp2_with (first
        | (refine list_load_mid _ _ _ (h * 3) _ _ rfl rfl rfl hgh Try.underlying29 rfl hi3 ?_))
      refine call_then (hq.out _) ?_
      intro w2 hw2
      replace hb := below_next hb hb.size hw2
      clear hw2 hgh hq
      by_cases hz0 : z < 0
      · have hid : (tnth l h).t < y := of_decide_eq_true (by rw [← hng.out]; exact decide_eq_true hz0)
        replace hid := Lib.hid hid
        go_wp2
        exact ⟨⟨h + 1, b, by omega, hbn, by go_num, rfl, Lib.hid (fun t ht => by
          by_cases he : t = h
          · rw [he]; exact hid.out
          · exact hdn.out t h (by omega) hhn hid.out), hhi, hb⟩, by simp [intOf]; omega⟩
      · have hid : y ≤ (tnth l h).t := by
          have := of_decide_eq_false (hng.out.symm.trans (decide_eq_false hz0))
          omega
        replace hid := Lib.hid hid
        go_wp2
        exact ⟨⟨a, h, by omega, by omega, rfl, rfl, hlo, Lib.hid (fun t h1 h2 => by
          by_cases he : t = h
          · rw [he]; exact hid.out
          · apply Int.not_lt.1
            intro hc
            have := hdn.out h t (by omega) h2 hc
            have := hid.out
            omega), hb⟩, by simp [intOf]; omega⟩
    · obtain rfl : a = b := by omega
      have e1 : ¬ (a : Int) < (a : Int) := by omega
      have hpl : TPlace l y a := ⟨by rw [hl.out]; exact hbn, hlo.out, fun i h1 h2 => hhi.out i h1 (by rw [← hl.out]; exact h2)⟩
      by_cases han : a < n
      · have e2 : (a : Int) < (n : Int) := by omega
        have h0 : (0 : Int) ≤ (a : Int) := by omega
        have hB : thasB l y a = decide ((tnth l a).t = y) := by unfold thasB; rw [hl.out, decide_eq_true han, Bool.true_and]
        have hgh := range_up2 (hcl.out a han) hb
        have hq := hcm.out a han
        have hi3 := h3.out a
        rw [← cmpU_zero] at hB
        generalize cmpU (tnth l a).t y = z at *
        generalize (tnth l a).cells = cs at *
        replace hq := Lib.hid hq
        replace hpl := Lib.hid hpl
        replace hB := Lib.hid hB
        go_wp2_with (first
          | (refine list_load_mid _ _ _ (a * 3) _ _ rfl rfl rfl hgh Try.underlying29 rfl hi3 ?_))
        refine call_then (hq.out _) ?_
        intro w2 hw2
        replace hb := below_next hb hb.size hw2
        clear hw2 hgh hq
        go_wp2
        refine bodyPost_ret (v := .tuple #[.int .i64 (a : Int), .bool (z == 0)]) (by simp [results, Try.results40, go_sem]) rfl ⟨a, hpl.out, by rw [hB.out], hb⟩
      · have e2 : ¬ (a : Int) < (n : Int) := by omega
        have hB : thasB l y a = false := by unfold thasB; rw [hl.out, decide_eq_false han, Bool.false_and]
        replace hpl := Lib.hid hpl
        replace hB := Lib.hid hB
        go_wp2
        refine bodyPost_ret (v := .tuple #[.int .i64 (a : Int), .bool false]) (by simp [results, Try.results40, go_sem]) rfl ⟨a, hpl.out, by rw [hB.out], hb⟩
end Go.Proofs.Ytnaakklfbegldaa
