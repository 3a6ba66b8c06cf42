/-
  A table's means over all reports.
-/
import Derived.Test.YtnaakklfbegldaaTcI
import Derived.Deep.Cut
import Derived.Deep.DeepCutAuto
import Derived.Deep.CutBlock
namespace Go.Proofs.Ytnaakklfbegldaa
open Go.RowKit Flow
set_option linter.unusedVariables false
set_option linter.unusedSimpArgs false

theorem put_noneT (a : Act) (v : Value) : a.put none v = a := rfl
theorem nans_div : Nans pdiv := fun a b h => by
  show ((Ieee.double.read a).quotient (Ieee.double.fractionBits + 2) (Ieee.double.read b)).map Ieee.double.write = none
  rcases h with h | h
  · obtain ⟨s, t, e⟩ := read_nan a h
    rw [e]
    rfl
  · obtain ⟨s, t, e⟩ := read_nan b h
    rw [e]
    cases Ieee.double.read a <;> rfl
theorem run_divR (a b : Nat) (w : World) : ∃ r w', (binOp .quo 35 (.float .f64 a) (.float .f64 b)).run Try.prog w = .ok (.float .f64 r) w' ∧ Below w.heap.size w w' ∧ Res pdiv a b r := by
  cases h : pdiv a b with
  | some r => exact ⟨r, w, run_float_arith w .quo _ .f64 a b r h, Below.refl _ _, .inl h⟩
  | none =>
    have h' : FloatKind.f64.format.div a b = none := h
    exact ⟨Question.cut (.nanBits .f64 a b) (w.tape w.drawn (.nanBits .f64 a b)), w.drew, by simp [binOp, Op.floatArith, h', Question.forced], (Below.refl _ w).drew, .inr ⟨h, cut_nan _ _ _⟩⟩
/-- A sum of numbers by their weights, one after the other. -/
inductive SumTo : List (Nat × Nat) → Nat → Prop
  | nil : SumTo [] 0
  | more {l : List (Nat × Nat)} {r x m p r2 : Nat} (h : SumTo l r) (hp : Res pmul x m p) (hr : Res padd r p r2) : SumTo (l ++ [(x, m)]) r2
theorem sum_sm {l : List (Nat × Nat)} {r : Nat} (h : SumTo l r) : ∀ {l' : List (Nat × Nat)} {r' : Nat}, l = l' → SumTo l' r' → Sm r r' := by
  induction h with
  | nil =>
    intro l' r' e h'
    cases h' with
    | nil => exact .inl rfl
    | more h hp hr => simp at e
  | more h hp hr ih =>
    intro l' r' e h'
    cases h' with
    | nil => simp at e
    | more h2 hp2 hr2 =>
      obtain ⟨e1, e2⟩ := List.append_inj' e rfl
      simp only [List.cons.injEq, Prod.mk.injEq, and_true] at e2
      obtain ⟨rfl, rfl⟩ := e2
      exact res_sm nans_add (ih e1 h2) (res_sm nans_mul (Sm.refl _) (Sm.refl _) hp hp2) hr hr2
def wts (l : List TR) (i : Nat) : List (Nat × Nat) := l.map fun s => (s.xs.getD i 0, floatOfInt .f64 s.m)
def allM (l : List TR) : Int := l.foldl (fun a s => a + s.m) 0
def MeanOut (l : List TR) (i : Nat) (w : World) (e : Ending) (w' : World) : Prop := ∃ sum r, e = .returned (.tuple #[.float .f64 r, .int .i64 0]) ∧ Below w.heap.size w w' ∧ SumTo (wts l i) sum ∧ Res pdiv sum (floatOfInt .f64 (allM l)) r
set_option maxRecDepth 20000 in
set_option maxHeartbeats 8000000 in
theorem mean_any (p base : Nat) (l : List TR) (a : Option Addr) (L cap i : Nat) (w : World) (h : Tb p base l (.slice a L cap) w) (hl : 0 < l.length) (hi : ∀ s, s ∈ l → i < s.xs.length) (hm : ∀ s, s ∈ l → 1 ≤ s.m ∧ s.m ≤ 256) :
    Calls Try.prog 14 #[.pointer (some ⟨p, 0, none⟩), .int .i64 i] w (MeanOut l i w) := by
  have hhas := thas_some p base l a L cap i w h hl
  rw [decide_eq_true (by omega), decide_eq_true (by have := hi _ (tnth_mem hl); omega)] at hhas
  replace hhas := Lib.hid hhas
  obtain ⟨hLl, g, rfl, _⟩ := first_cell h hl
  have hcell := Lib.hid (fun w (h : Tb p base l (.slice (some ⟨g, 0, none⟩) L cap) w) i (hi : i < L) => trow_at (n := L) (by have := h.row; rw [← hLl] at this; exact this) (by rw [← hLl]; exact hi))
  have hL1 : L ≤ 32 := by rw [hLl]; exact h.few
  have i0 : (0 : Int) ≤ (i : Int) := by omega
  unfold MeanOut
  replace hLl := Lib.hid hLl
  replace hi := Lib.hid hi
  replace hm := Lib.hid hm
  clear hl
  go_enter Try.func14, Try.ntmps14
  go_wp2_with fail
  refine call_then hhas.out ?_
  intro w1 hb
  clear hhas
  have hup : ∀ w', Below w.heap.size w w' → Tb p base l (.slice (some ⟨g, 0, none⟩) L cap) w' := fun w' hb => h.below hb
  obtain ⟨c0, _⟩ := blk1t (hup _ hb).hp
  go_wp2
  go_loopw [21, 6, 7] (fun i' sv mv wr => ∃ (j sum : Nat) (many : Int), j ≤ L ∧ i' = .int .i64 (j : Int) ∧ sv = .float .f64 sum ∧ mv = .int .i64 many ∧ Below w.heap.size w wr ∧ SumTo (wts (l.take j) i) sum ∧ many = allM (l.take j) ∧ 0 ≤ many ∧ many ≤ j * 256) (fun i' _ _ _ => L - (intOf i').toNat)
  case atStart => exact ⟨0, 0, 0, Nat.zero_le _, rfl, rfl, rfl, hb, .nil, rfl, Int.le_refl _, by omega⟩
  case round =>
    clear hb c0
    obtain ⟨j, sum, many, hj, rfl, rfl, rfl, hb, hsum, hmany, hm0, hm1⟩ := hrel
    replace hmany := Lib.hid hmany
    replace hsum := Lib.hid hsum
    by_cases hjl : j < L
    · have e1 : (j : Int) < (L : Int) := by omega
      have e2 : (0 : Int) ≤ (j : Int) := by omega
      have hr := hcell.out _ (hup _ hb) j hjl
      have hjl' : j < l.length := by rw [← hLl.out]; exact hjl
      have hmem : tnth l j ∈ l := tnth_mem hjl'
      have hil := hi.out _ hmem
      obtain ⟨hs1, hs2⟩ := hm.out _ hmem
      have hfl := fun w' hb' => fl_cell ((hup w' hb').fl _ hmem) hil
      have hnw : wts (l.take (j + 1)) i = wts (l.take j) i ++ [((tnth l j).xs.getD i 0, floatOfInt .f64 (tnth l j).m)] := by
        unfold wts
        rw [List.take_add_one, List.getElem?_eq_getElem hjl', List.map_append, tnth_is hjl']
        rfl
      have hna : allM (l.take (j + 1)) = allM (l.take j) + (tnth l j).m := by
        unfold allM
        rw [List.take_add_one, List.getElem?_eq_getElem hjl', List.foldl_append, tnth_is hjl']
        rfl
      generalize tnth l j = s at *
      have e5 : (i : Int) < (s.xs.length : Int) := by omega
      have hi3 : ((Try.prog).info? 29).map (·.size) = some (rowc s.t s.m (.slice s.A s.xs.length s.c)).length := by kernel_rfl
      replace hr : wr.rangeAt g (j * 3) (rowc s.t s.m (.slice s.A s.xs.length s.c)) := hr
      replace hfl := Lib.hid hfl
      replace hnw := Lib.hid hnw
      replace hna := Lib.hid hna
      generalize s.xs.getD i 0 = x at *
      go_upto_region 9 with (first
        | (refine list_load_mid _ _ _ (j * 3) _ _ rfl rfl rfl hr Try.underlying29 rfl hi3 ?_)
        | (refine list_store_whole _ _ _ _ (rowc s.t s.m (.slice s.A s.xs.length s.c)) [.int .u64 0, .int .i64 0, .slice none 0 0] 29 rfl rfl rfl rfl (alloc_at rfl) rfl (by kernel_rfl) rowc_one ?_; intro w5 hbut ks; have hv := hbut.below ((Below.refl wr.heap.size wr).alloc (Nat.le_refl _) _) (Nat.le_refl _) (by simp)))
      clear hbut hr
      replace hb := below_next hb hb.size hv
      clear hv
      rw [put_noneT]
      refine seg_start 12 (by kernel_rfl) (by decide) ?_
      intro v0 hv
      replace hb := below_next hb hb.size hv
      replace ks := keeps hv ks
      clear hv
      obtain ⟨gA, hA, hx⟩ := hfl.out _ hb
      refine seg_batch 3 [0, 1, 2, 3, 4, 5, 6, 7, 8] (by kernel_rfl) rfl (by kernel_rfl) (by kernel_rfl) (by kernel_rfl) ?_
      apply Exists.intro
      refine ⟨fun ι _ φ hφ => ?_, fun v1 hv => ?_⟩
      · have s1 := fun i => (blk3t ((keeps (hφ.old i) ks).trans rfl)).2.1
        have s2 := fun i => (blk3t ((keeps (hφ.old i) ks).trans rfl)).2.2.1
        have sx := fun i => ((hφ.old i).cell (World.block_lt_of_cell? _ _ hx)).trans hx
        simp only [hA] at s2
        repeat (refine pick_step rfl ?_; go_big_quiet_step (fail))
        exact pick_end
      replace hb := below_next hb hb.size hv
      replace ks := keeps hv ks
      clear hv hx hA
      refine seg_one 9 _ (by decide) rfl (by kernel_rfl) ?_
      intro v2 K hv hK
      replace hb := below_next hb hb.size hv
      replace ks := keeps hv ks
      clear hv
      replace hK := Lib.hid hK
      obtain ⟨pr, v3, hrun, hv, hres⟩ := run_mulR x (floatOfInt .f64 s.m) v2
      go_simp
      refine hK.out _ _ hv ?_
      clear hK K hrun
      replace hb := below_next hb hb.size hv
      replace ks := keeps hv ks
      clear hv
      refine seg_one 10 _ (by decide) rfl (by kernel_rfl) ?_
      intro v4 K hv hK
      replace hb := below_next hb hb.size hv
      replace ks := keeps hv ks
      clear hv
      replace hK := Lib.hid hK
      obtain ⟨sm, v5, hrun, hv, hres2⟩ := run_addR sum pr v4
      go_simp
      refine hK.out _ _ hv ?_
      clear hK K hrun
      replace hb := below_next hb hb.size hv
      replace ks := keeps hv ks
      clear hv
      refine seg_batch 0 [11] (by kernel_rfl) rfl (by kernel_rfl) (by kernel_rfl) (by kernel_rfl) ?_
      apply Exists.intro
      refine ⟨fun ι _ φ hφ => ?_, fun v6 hv => ?_⟩
      · repeat (refine pick_step rfl ?_; go_big_quiet_step (fail))
        exact pick_end
      replace hb := below_next hb hb.size hv
      replace ks := keeps hv ks
      clear hv
      refine seg_done rfl (by kernel_rfl) ?_
      intro v7 hv
      replace hb := below_next hb hb.size hv
      replace ks := keeps hv ks
      clear hv
      obtain ⟨s0, s1, s2, _, _, _⟩ := blk3t (ks.trans rfl)
      have z1 : IntKind.i64.wrap (many + s.m) = many + s.m := by rw [IntKind.wrap_i64]; omega
      have hs9 : SumTo (wts (l.take (j + 1)) i) sm := by rw [hnw.out]; exact hsum.out.more hres hres2
      replace hs9 := Lib.hid hs9
      go_wp2
      exact ⟨⟨j + 1, sm, many + s.m, by omega, by go_num, rfl, by first | rfl | go_num, hb, hs9.out, by rw [hna.out, hmany.out], by omega, by omega⟩, leftT (by assumption)⟩
    · obtain rfl : j = L := by omega
      have e1 : ¬ (j : Int) < (j : Int) := by omega
      obtain ⟨r, w', hrun, hv, hres⟩ := run_divR sum (floatOfInt .f64 many) wr
      have hs9 : SumTo (wts l i) sum := by
        have := hsum.out
        rwa [hLl.out, List.take_length] at this
      have hm9 : many = allM l := by
        have := hmany.out
        rwa [hLl.out, List.take_length] at this
      replace hb := below_next hb hb.size hv
      replace hm9 := Lib.hid hm9
      replace hs9 := Lib.hid hs9
      go_wp2
      refine bodyPost_ret (v := .tuple #[.float .f64 r, .int .i64 0]) (by simp [results, Try.results14, go_sem]) rfl (by
        first
          | exact ⟨sum, r, rfl, hb, hs9.out, by rw [← hm9.out]; exact hres⟩
          | exact ⟨sum, ⟨r, rfl, hb, hs9.out, by rw [← hm9.out]; exact hres⟩⟩
          | exact ⟨sum, hb, hs9.out, by rw [← hm9.out]; exact hres⟩)
end Go.Proofs.Ytnaakklfbegldaa
