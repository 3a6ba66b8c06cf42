/-
  A disk of no file, of one: made; how many bytes there are.
-/
import Derived.Test.YtmicnkiadfihgaaDkA
namespace Go.Proofs.Ytmicnkiadfihgaa
open Go.RowKit Flow Go.Maps
set_option linter.unusedVariables false
set_option linter.unusedSimpArgs false

theorem new_100 (w : World) : Calls Try.prog 18 #[.int .i64 100] w fun e w' => ∃ d m, e = .returned (.pointer (some ⟨d, 0, none⟩)) ∧ Below w.heap.size w w' ∧ w.heap.size ≤ m ∧ w.heap.size ≤ d ∧ Ds0 d m 0 100 (.map []) w' := by
  have hmm := @run_makeMap Try.prog
  have hM := Lib.hid (World.ownsMap_made (H := Value) w Try.prog 9 RvK)
  go_enter Try.func18, Try.ntmps18
  go_wp2
  go_ret
  refine ⟨w.heap.size + 1, w.heap.size, by simp, ((Below.refl _ _).alloc (Nat.le_refl _) _).alloc (by simp) _, Nat.le_refl _, Nat.le_succ _, alloc_at (by simp), hM.out.alloc _, fun kl => rfl, rfl⟩
theorem named_a (w : World) : Calls Try.prog 24 #[.string nmA] w fun e w' => e = .returned (.bool true) ∧ Below w.heap.size w w' := by
  have hix : ∀ w, (Instr.index 9 (.string nmA) (.int .i64 0)).run Try.prog w = .ok (.int .u8 97) w := fun w => by kernel_rfl
  have hz : nmA.size = 1 := rfl
  obtain ⟨s, hs⟩ : ∃ s, nmA = s := ⟨_, rfl⟩
  rw [hs] at hix hz ⊢
  clear hs
  go_enter Try.func24, Try.ntmps24
  go_wp2
  go_loopw [15] (fun i wr => ∃ j : Nat, i = .int .i64 (j : Int) ∧ j ≤ 1 ∧ Below w.heap.size w wr) (fun i _ => 1 - (intOf i).toNat)
  case atStart => exact ⟨0, rfl, by decide, Below.refl _ _⟩
  case round =>
    obtain ⟨j, rfl, hj, hb⟩ := hrel
    obtain rfl | rfl : j = 0 ∨ j = 1 := by omega
    · go_wp2
      exact ⟨⟨1, rfl, by decide, hb⟩, by decide⟩
    · go_wp2
      go_ret
      exact ⟨rfl, hb⟩
theorem inv_strK : ∀ key kl, keyOf Try.prog 9 key = some kl → ∃ x, key = Value.string x := fun key kl h => by
  cases key with
  | string x => exact ⟨x, rfl⟩
  | _ => simp [keyOf, Try.underlying9, mapKey] at h
theorem grown_belowK {B : Nat} {w0 w w' : World} (hb : Below B w0 w) (hg : w.grownBy w' none) (hB : B ≤ w.heap.size) : Below B w0 w' := hb.grown hg hB (fun j hj => by cases hj)
set_option maxRecDepth 20000 in
theorem used_0 (d m n : Nat) (lim : Int) (D : DataW Value) (w : World) (h : Ds0 d m n lim D w) :
    Calls Try.prog 15 #[.pointer (some ⟨d, 0, none⟩)] w fun e w' => e = .returned (.int .i64 0) ∧ Below w.heap.size w w' := by
  obtain ⟨c0, c1⟩ := disk_cells h.kd
  have hm := h.hm
  have hno := Lib.hid h.none
  clear h
  go_enter Try.func15, Try.ntmps15
  go_wp2_with (first
    | (at_range; refine wpList_range_own _ rfl _ 51 rfl 9 54 keyed_strK Try.underlying51 RvK m n D rfl hm ?_; intro w0 hrg0 hg0 hs0)
    | go_in)
  go_frame
  go_loopw [3] (fun u wr => u = .int .i64 0 ∧ ∃ cnt, wr.ranges Try.prog 9 RvK m w.heap.size n D (Maps.has D) cnt ∧ Below w.heap.size w wr) (fun _ wr => wr.rangeLeft m w.heap.size)
  case atStart => exact ⟨rfl, _, hrg0, grown_belowK (Below.refl _ _) hg0 (Nat.le_refl _)⟩
  case round =>
    obtain ⟨rfl, cnt, hrg, hb⟩ := hrel
    go_wp2_with (first
      | (at_next; refine wpList_next_ranges _ rfl _ rfl 9 keyed_strK RvK Value.string (fun v : Value => v) inv_strK (fun v y _ => ⟨v, rfl⟩) m w.heap.size n D _ _ rfl hrg ?_ ?_)
      | go_in)
    · intro _ hl0
      go_wp2
      go_ret
      exact ⟨rfl, hb⟩
    · intro x c kl y ps w1 cnt1 hk hlx
      rw [hno.out] at hlx
      cases hlx
theorem same_eqK {kl : Lit} (h : kl.sameKey (klitK nmA) = true) : kl = klitK nmA := by
  by_cases e : kl = klitK nmA
  · exact e
  · rw [Maps.sameKey_ne e] at h
    cases h
theorem same_selfK : (klitK nmA).sameKey (klitK nmA) = true := by decide
/-- What an entry of the one file is. -/
theorem entry_1 {B d m n f : Nat} {lim : Int} {D : DataW Value} {V : Value} {X : List Int} {S : Nat} {w : World} (h : Ds1 B d m n f lim D V X S w) {kl : Lit} (hh : Maps.has D kl = true) {c : Value} {y : DataW Value} {ps : List MemPlace} (hR : RvK c = some (y, ps)) (hat : ∀ zd, D.atKey kl zd = y) : kl = klitK nmA ∧ c = .pointer (some ⟨f, 0, none⟩) := by
  have e := same_eqK (h.only kl hh)
  subst e
  refine ⟨rfl, ?_⟩
  have h1 := hat (.held (.pointer none))
  rw [h.atk] at h1
  have h2 := congrArg Prod.fst (Option.some.inj hR)
  rw [← h1] at h2
  injection h2
set_option maxRecDepth 20000 in
theorem used_1 (B d m n f : Nat) (lim : Int) (D : DataW Value) (V : Value) (X : List Int) (S : Nat) (hX : X.length ≤ 1000000) (w : World) (h : Ds1 B d m n f lim D V X S w) :
    Calls Try.prog 15 #[.pointer (some ⟨d, 0, none⟩)] w fun e w' => e = .returned (.int .i64 (X.length : Int)) ∧ Below w.heap.size w w' := by
  obtain ⟨c0, c1⟩ := disk_cells h.kd
  have hm := h.hm
  have hent := Lib.hid (fun (kl : Lit) (hh : Maps.has D kl = true) (c : Value) (y : DataW Value) (ps : List MemPlace) (hR : RvK c = some (y, ps)) (hat : ∀ zd, D.atKey kl zd = y) => entry_1 h hh hR hat)
  have hhas := Lib.hid h.has
  obtain ⟨A, cp, rfl⟩ := owns_slice h.row
  have kf := h.kf
  clear h
  obtain ⟨xn, hxn⟩ : ∃ xn, X.length = xn := ⟨_, rfl⟩
  rw [hxn] at kf hX ⊢
  clear hxn
  have hw : IntKind.i64.wrap (xn : Int) = (xn : Int) := by rw [IntKind.wrap_i64]; omega
  go_enter Try.func15, Try.ntmps15
  go_wp2_with (first
    | (at_range; refine wpList_range_own _ rfl _ 51 rfl 9 54 keyed_strK Try.underlying51 RvK m n D rfl hm ?_; intro w0 hrg0 hg0 hs0)
    | go_in)
  go_frame
  go_loopw [3] (fun u wr => ∃ (left : Lit → Bool) (cnt : Nat) (z : Int), u = .int .i64 z ∧ Hid (z = if left (klitK nmA) = true then 0 else (xn : Int)) ∧ wr.ranges Try.prog 9 RvK m w.heap.size n D left cnt ∧ Hid (∀ kl, left kl = true → Maps.has D kl = true) ∧ Below w.heap.size w wr) (fun _ wr => wr.rangeLeft m w.heap.size)
  case atStart => exact ⟨_, _, 0, rfl, Lib.hid (by rw [hhas.out]; rfl), hrg0, Lib.hid (fun kl h => h), grown_belowK (Below.refl _ _) hg0 (Nat.le_refl _)⟩
  case round =>
    obtain ⟨left, cnt, z, rfl, hz, hrg, hl, hb⟩ := hrel
    go_wp2_with (first
      | (at_next; refine wpList_next_ranges _ rfl _ rfl 9 keyed_strK RvK Value.string (fun v : Value => v) inv_strK (fun v y _ => ⟨v, rfl⟩) m w.heap.size n D _ _ rfl hrg ?_ ?_)
      | go_in)
    · intro _ hl0
      have hz2 := hz.out
      rw [hl0, if_neg (by decide)] at hz2
      subst hz2
      clear hz hl0 hl
      go_wp2
      go_ret
      exact ⟨rfl, hb⟩
    · intro x c kl y ps w1 cnt1 hk hlx hR hat hrg1 hlt hg1 hs1 hen
      obtain ⟨rfl, rfl⟩ := hent.out _ (hl.out _ hlx) _ _ _ hR hat
      have hz2 := hz.out
      rw [hlx, if_pos rfl] at hz2
      subst hz2
      have hb1 := hb.grown hg1 hb.size (fun j hj => by cases hj; exact Nat.le_refl _)
      obtain ⟨y0, y1, -, -⟩ := file_cells (keeps hb1 kf)
      have hl2 := hl.out
      have hr1 := hrg.left_eq
      have hr2 := hrg1.left_eq
      clear hz hl hR hat hlx hk hg1 hs1 hb
      replace hrg1 := Lib.hid hrg1
      replace hb1 := Lib.hid hb1
      replace hl2 := Lib.hid hl2
      replace hlt := Lib.hid hlt
      replace hr1 := Lib.hid hr1
      replace hr2 := Lib.hid hr2
      go_wp2
      go_roundw
      case rel => exact ⟨_, cnt1, (xn : Int), by simp, Lib.hid (by rw [same_selfK]; simp), hrg1.out, Lib.hid (fun kl h => hl2.out kl (by simp only [Bool.and_eq_true] at h; exact h.1)), hb1.out⟩
      case measure => rw [hr2.out, hr1.out]; exact hlt.out
end Go.Proofs.Ytmicnkiadfihgaa
