/-
  A disk of one file: a crash.
-/
import Derived.Test.YtmicnkiadfihgaaDkE
namespace Go.Proofs.Ytmicnkiadfihgaa
open Go.RowKit Flow Go.Maps
set_option linter.unusedVariables false
set_option linter.unusedSimpArgs false

theorem Ds1.walk {B d m n f r : Nat} {lim : Int} {D : DataW Value} {V : Value} {X : List Int} {S : Nat} {w w' : World} (h : Ds1 B d m n f lim D V X S w) (hg : w.grownBy w' (some r)) (hrm : r ≠ m) (hr : ∀ x t fr, w.heap[r]? ≠ some (.cells x t fr)) : Ds1 B d m n f lim D V X S w' := by
  have hne : ∀ {k : Nat} {x : Array Value} {t : TypeId} {fr : Nat × Nat}, w.heap[k]? = some (.cells x t fr) → w'.heap[k]? = some (.cells x t fr) := fun {k x t fr} hk => (hg.block k (lt_of_get hk) (fun e => by cases e; exact hr _ _ _ hk)).trans hk
  refine ⟨hne h.kd, map_keepK h.hm (hg.block m (map_ltK h.hm) (fun e => hrm (Option.some.inj e).symm)), h.has, h.only, h.sz, h.atk, hne h.kf, h.row.kept hg ?_, h.lows⟩
  rcases h.row.2 with ⟨e2, _⟩ | ⟨g, cap, cur, e2, _, hg2, _⟩
  · exact .inl (by rw [e2]; rfl)
  · exact .inr (fun e => by rw [e2] at e; cases e; exact hr _ _ _ hg2)
theorem But.grownK {f : Nat} {w w' : World} (hb : But f w w') : w.grownBy w' (some f) := ⟨hb.os, hb.tape, hb.output, hb.size, fun b hlt hne => hb.block b hlt (fun e => hne (by rw [e]))⟩
theorem Below.grownK {w w' : World} (hb : Below w.heap.size w w') : w.grownBy w' none := ⟨hb.os, hb.tape, hb.output, hb.size, fun b hlt hne => hb.block b hlt⟩
theorem range_cellK {w : World} {m r n : Nat} {D : DataW Value} {left : Lit → Bool} {cnt : Nat} (h : w.ranges Try.prog 9 RvK m r n D left cnt) : ∀ x t fr, w.heap[r]? ≠ some (.cells x t fr) := fun x t fr e => by
  obtain ⟨es, clock, since, seen, c0, hb, F, hs, hD, hr, rest⟩ := h
  rw [hr] at e
  cases e
/-- Of what there was, the file's own cells alone may differ. -/
def Sam (f : Nat) (w w' : World) : Prop := w.heap.size ≤ w'.heap.size ∧ ∀ k, k < w.heap.size → k ≠ f → w'.heap[k]? = w.heap[k]?
theorem Sam.grown {f : Nat} {w w1 w2 : World} {r : Option Nat} (h : Sam f w w1) (hg : w1.grownBy w2 r) (hr : ∀ k, r = some k → w.heap.size ≤ k ∨ k = f) : Sam f w w2 :=
  ⟨Nat.le_trans h.1 hg.size, fun k hk hne => (hg.block k (Nat.lt_of_lt_of_le hk h.1) (fun e => by rcases hr k e.symm with h | h <;> omega)).trans (h.2 k hk hne)⟩
theorem Sam.below {f : Nat} {w w1 w2 : World} (h : Sam f w w1) (hv : Below w1.heap.size w1 w2) : Sam f w w2 := h.grown (Below.grownK hv) (fun k e => (by cases e))
theorem Sam.but {f : Nat} {w w1 w2 : World} (h : Sam f w w1) (hv : But f w1 w2) : Sam f w w2 := h.grown (But.grownK hv) (fun k e => (by cases e; exact .inr rfl))
/-- How many bytes stay. -/
def kept (S xn : Nat) (keep : Int) : Nat := S + min keep.toNat (xn - S)
def CrSt (B d m n f : Nat) (lim : Int) (D : DataW Value) (X : List Int) (S kk : Nat) (l : Bool) (w : World) : Prop :=
  ∃ V' X' S', Ds1 B d m n f lim D V' X' S' w ∧ (l = true → X' = X ∧ S' = S) ∧ (l = false → X' = X.take kk ∧ S' = kk)
set_option maxRecDepth 20000 in
set_option maxHeartbeats 4000000 in
theorem crash_1 (B d m n f : Nat) (lim : Int) (D : DataW Value) (V : Value) (X : List Int) (S kk : Nat) (keep : Int) (hkk : kept S X.length keep = kk) (hS : S ≤ X.length) (hX : X.length ≤ 1000000) (w0 w : World) (hb : Below B w0 w) (hs : B ≤ w.heap.size) (h : Ds1 B d m n f lim D V X S w) :
    Calls Try.prog 8 #[.pointer (some ⟨d, 0, none⟩), .int .i64 keep] w fun e w' => ∃ V', e = .returned (.tuple #[]) ∧ Below B w0 w' ∧ Ds1 B d m n f lim D V' (X.take kk) kk w' ∧ Sam f w w' := by
  obtain ⟨c0, c1⟩ := disk_cells h.kd
  have hm := h.hm
  have hlo := Lib.hid (fun V w h => loose_ok B f V X S hS hX w h)
  have hkl : kk ≤ X.length := by unfold kept at hkk; omega
  have hSk : S ≤ kk := by unfold kept at hkk; omega
  have hcu := Lib.hid (fun V w h => cut_ok B f V X S kk hkl hSk w h)
  have hhas := Lib.hid h.has
  obtain ⟨kp, hkp⟩ : ∃ kp : Nat, keep.toNat = kp := ⟨_, rfl⟩
  obtain ⟨z, hz⟩ : ∃ z : Nat, X.length - S = z := ⟨_, rfl⟩
  obtain ⟨y, hy⟩ : ∃ y : Nat, kk - S = y := ⟨_, rfl⟩
  rw [hz] at hlo
  have hmy : min kp z = y := by unfold kept at hkk; omega
  have hmax : max (0 : Int) keep = (kp : Int) := by omega
  have hmax2 : (if (0 : Int) < keep then keep else 0) = (kp : Int) := by split <;> omega
  have hmin : min (kp : Int) (z : Int) = (y : Int) := by omega
  have hmin2 : (if (z : Int) < (kp : Int) then (z : Int) else (kp : Int)) = (y : Int) := by split <;> omega
  have hmin3 : (if (z : Int) < (if (0 : Int) < keep then keep else 0) then (z : Int) else (if (0 : Int) < keep then keep else 0)) = (y : Int) := by rw [hmax2]; exact hmin2
  have hsum : IntKind.i64.wrap ((S : Int) + (y : Int)) = (kk : Int) := by rw [IntKind.wrap_i64]; omega
  replace hkp := Lib.hid hkp
  replace hkk := Lib.hid hkk
  replace hz := Lib.hid hz
  replace hy := Lib.hid hy
  replace hmy := Lib.hid hmy
  replace h := Lib.hid h
  replace hb := Lib.hid hb
  go_enter Try.func8, Try.ntmps8
  go_wp2_with (first
    | (at_range; refine wpList_range_own _ rfl _ 51 rfl 9 54 keyed_strK Try.underlying51 RvK m n D rfl hm ?_; intro w1 hrg0 hg0 hs0)
    | go_in)
  have hb0 := hb.out.grown hg0 hs (fun j hj => by cases hj)
  replace h := Lib.hid (show Ds1 B d m n f lim D V X S w1 from ⟨(hg0.block d (lt_of_get h.out.kd) (fun e => by cases e)).trans h.out.kd, map_keepK h.out.hm (hg0.block m (map_ltK h.out.hm) (fun e => by cases e)), h.out.has, h.out.only, h.out.sz, h.out.atk, (hg0.block f (lt_of_get h.out.kf) (fun e => by cases e)).trans h.out.kf, h.out.row.kept hg0 (Classical.em _), h.out.lows⟩)
  replace hb := Lib.hid hb0
  have hs1 : B ≤ w1.heap.size := Nat.le_trans hs hg0.size
  have hSm : Hid (Sam f w w1) := Lib.hid (Sam.grown ⟨Nat.le_refl _, fun k _ _ => rfl⟩ hg0 (fun k e => by cases e))
  clear hm hg0 hs0 hb0 c0 c1
  go_frame
  go_loopw [5] (fun u wr => ∃ (left : Lit → Bool) (cnt : Nat), wr.ranges Try.prog 9 RvK m w.heap.size n D left cnt ∧ Hid (∀ kl, left kl = true → Maps.has D kl = true) ∧ Hid (Below B w0 wr) ∧ B ≤ wr.heap.size ∧ Hid (CrSt B d m n f lim D X S kk (left (klitK nmA)) wr) ∧ Hid (Sam f w wr)) (fun _ wr => wr.rangeLeft m w.heap.size)
  case atStart => exact ⟨_, _, hrg0, Lib.hid (fun kl h => h), hb, hs1, Lib.hid ⟨V, X, S, h.out, fun _ => ⟨rfl, rfl⟩, fun e => by rw [hhas.out] at e; cases e⟩, hSm⟩
  case round =>
    obtain ⟨left, cnt, hrg, hl, hbr, hsr, hst, hSr⟩ := hrel
    clear h hb hSm
    go_wp2_with (first
      | (at_next; go_loud (refine wpList_next_ranges _ rfl _ rfl 9 keyed_strK RvK Value.string (fun v : Value => v) inv_strK (fun v y _ => ⟨v, rfl⟩) m w.heap.size n D _ _ rfl hrg ?_ ?_))
      | go_in)
    · intro _ hl0
      obtain ⟨V', X', S', hd, -, hf⟩ := hst.out
      obtain ⟨rfl, rfl⟩ := hf (by rw [hl0])
      clear hst hl0 hl hf
      replace hd := Lib.hid hd
      go_wp2
      refine bodyPost_end (results_none rfl _ _ _) rfl ?_
      exact ⟨V', rfl, hbr.out, hd.out, hSr.out⟩
    · intro x c kl y ps w2 cnt1 hk hlx hR hat hrg1 hlt hg1 hs2 hen
      obtain ⟨V', X', S', hd, ht, -⟩ := hst.out
      obtain ⟨rfl, rfl⟩ := entry_1 hd (hl.out _ hlx) hR hat
      obtain ⟨rfl, rfl⟩ := ht hlx
      have hb2 := Lib.hid (hbr.out.grown hg1 hsr (fun j hj => by cases hj; exact hs))
      have hd2 := Lib.hid (hd.walk hg1 hrg.ne (range_cellK hrg))
      have hr1 := Lib.hid hrg.left_eq
      have hS2 := Lib.hid (hSr.out.grown hg1 (fun k e => by cases e; exact .inl (Nat.le_refl _)))
      have hsz2 : B ≤ w2.heap.size := Nat.le_trans hsr hg1.size
      have hl2 := Lib.hid hl.out
      clear hSr hst hd ht hbr hR hat hlx hk hg1 hrg hl
      replace hrg1 := Lib.hid hrg1
      replace hlt := Lib.hid hlt
      replace hs2 := Lib.hid hs2
      obtain ⟨y0, y1, -, -⟩ := file_cells hd2.out.kf
      go_upto_region 4 with (fail)
      refine wp_region_flow1 11 (by kernel_rfl) (by kernel_rfl) (by kernel_rfl) ?_
      apply Exists.intro
      refine ⟨fun ι _ φ hφ => ?_, fun w3 hv => ?_⟩
      · have e1 := fun i => ((hφ.old i).cell (World.block_lt_of_cell? _ _ y1)).trans y1
        simp only [List.take_succ_cons, List.take_zero]
        repeat (go_big_quiet_step ((go_at_call 21; exact flow_call hφ (hlo.out _ _ (hd2.out.fil.up (hφ.old _))))))
        exact wpQuiet_nil rfl
      have hd3 := Lib.hid (hd2.out.up hv)
      have hb3 := Lib.hid (below_next hb2.out hsz2 hv)
      have hsz3 := Nat.le_trans hsz2 hv.size
      have hS3 := Lib.hid (hS2.out.below hv)
      have hrg3 := Lib.hid (hrg1.out.kept (Below.grownK hv) (by simp) (by simp))
      clear hv hd2 hb2 hrg1 y0 y1 hS2
      simp only [List.drop_succ_cons, List.drop_zero]
      go_wp2_with (fail)
      · have hz1 := hz.out
        have hy1 := hy.out
        have hmy1 := hmy.out
        rw [show wrap64 ((S' : Int) + (z : Int)) = (kk : Int) from by unfold wrap64; omega]
        clear hz1 hy1 hmy1 hmax hmax2 hmin hmin2 hmin3
        refine (hcu.out _ _ hd3.out.fil).mono ?_
        rintro e4 w4 ⟨V4, rfl, hbut, hsz4, hf4⟩
        have hfm : f ≠ m := map_neK hd3.out.kf hd3.out.hm
        have hfr : f ≠ w.heap.size := fun e => range_cellK hrg3.out _ _ _ (e ▸ hd3.out.kf)
        have hd4 := Lib.hid (hd3.out.file hbut hf4.kf hf4.row)
        have hb4 := Lib.hid (hbut.below hb3.out hd3.out.lows.2.2 hsz3)
        have hS4 := Lib.hid (hS3.out.but hbut)
        have hrg4 := Lib.hid (hrg3.out.kept (But.grownK hbut) (fun e => hfm (Option.some.inj e).symm) (fun e => hfr (Option.some.inj e).symm))
        have hlen : (X'.take kk).length = kk := by rw [List.length_take]; omega
        obtain ⟨A4, c4, rfl⟩ := owns_slice hf4.row
        rw [hlen] at hd4 hf4
        obtain ⟨y0, y1, yf0, yf1⟩ := file_cells hf4.kf
        have kf4 := Lib.hid hf4.kf
        have hr4 := Lib.hid hf4.row
        have hsz5 : B ≤ w4.heap.size := by omega
        clear hbut hd3 hb3 hrg3 hf4 hsz4
        go_wp2_with (fail)
        have hbut : But f w4 (w4.setCell ⟨f, 1, none⟩ (.int .i64 (kk : Int))) := (But.refl f w4).set _
        have hr5 := Lib.hid (hrg4.out.kept (But.grownK hbut) (fun e => hfm (Option.some.inj e).symm) (fun e => hfr (Option.some.inj e).symm))
        go_roundw
        case rel =>
          refine ⟨_, cnt1, hr5.out, Lib.hid (fun kl h => hl2.out kl (by simp only [Bool.and_eq_true] at h; exact h.1)), Lib.hid (hbut.below hb4.out hd4.out.lows.2.2 hsz5), by simp; exact hsz5, Lib.hid ⟨.slice A4 kk c4, X'.take kk, kk, hd4.out.file hbut ((store1 (b := f) (o := 1) (v := .int .i64 (kk : Int)) kf4.out).trans rfl) (row_butK hr4.out hbut (row_neK hr4.out kf4.out)), fun e => ?_, fun _ => ⟨rfl, rfl⟩⟩, Lib.hid (hS4.out.but hbut)⟩
          rw [same_selfK] at e
          simp at e
        case measure => rw [hr5.out.left_eq, hr1.out]; exact hlt.out
      · have hz1 := hz.out
        have hy1 := hy.out
        have hmy1 := hmy.out
        rw [show wrap64 ((S' : Int) + (kp : Int)) = (kk : Int) from by unfold wrap64; omega]
        clear hz1 hy1 hmy1 hmax hmax2 hmin hmin2 hmin3
        refine (hcu.out _ _ hd3.out.fil).mono ?_
        rintro e4 w4 ⟨V4, rfl, hbut, hsz4, hf4⟩
        have hfm : f ≠ m := map_neK hd3.out.kf hd3.out.hm
        have hfr : f ≠ w.heap.size := fun e => range_cellK hrg3.out _ _ _ (e ▸ hd3.out.kf)
        have hd4 := Lib.hid (hd3.out.file hbut hf4.kf hf4.row)
        have hb4 := Lib.hid (hbut.below hb3.out hd3.out.lows.2.2 hsz3)
        have hS4 := Lib.hid (hS3.out.but hbut)
        have hrg4 := Lib.hid (hrg3.out.kept (But.grownK hbut) (fun e => hfm (Option.some.inj e).symm) (fun e => hfr (Option.some.inj e).symm))
        have hlen : (X'.take kk).length = kk := by rw [List.length_take]; omega
        obtain ⟨A4, c4, rfl⟩ := owns_slice hf4.row
        rw [hlen] at hd4 hf4
        obtain ⟨y0, y1, yf0, yf1⟩ := file_cells hf4.kf
        have kf4 := Lib.hid hf4.kf
        have hr4 := Lib.hid hf4.row
        have hsz5 : B ≤ w4.heap.size := by omega
        clear hbut hd3 hb3 hrg3 hf4 hsz4
        go_wp2_with (fail)
        have hbut : But f w4 (w4.setCell ⟨f, 1, none⟩ (.int .i64 (kk : Int))) := (But.refl f w4).set _
        have hr5 := Lib.hid (hrg4.out.kept (But.grownK hbut) (fun e => hfm (Option.some.inj e).symm) (fun e => hfr (Option.some.inj e).symm))
        go_roundw
        case rel =>
          refine ⟨_, cnt1, hr5.out, Lib.hid (fun kl h => hl2.out kl (by simp only [Bool.and_eq_true] at h; exact h.1)), Lib.hid (hbut.below hb4.out hd4.out.lows.2.2 hsz5), by simp; exact hsz5, Lib.hid ⟨.slice A4 kk c4, X'.take kk, kk, hd4.out.file hbut ((store1 (b := f) (o := 1) (v := .int .i64 (kk : Int)) kf4.out).trans rfl) (row_butK hr4.out hbut (row_neK hr4.out kf4.out)), fun e => ?_, fun _ => ⟨rfl, rfl⟩⟩, Lib.hid (hS4.out.but hbut)⟩
          rw [same_selfK] at e
          simp at e
        case measure => rw [hr5.out.left_eq, hr1.out]; exact hlt.out
end Go.Proofs.Ytmicnkiadfihgaa
