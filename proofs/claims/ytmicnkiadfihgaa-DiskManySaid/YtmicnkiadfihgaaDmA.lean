/-
  A disk of many files with nothing in them: looked for, used.
-/
import Derived.Test.YtmicnkiadfihgaaDkC
namespace Go.Proofs.Ytmicnkiadfihgaa
open Go.RowKit Flow Go.Maps
set_option linter.unusedVariables false
set_option linter.unusedSimpArgs false

/-- A disk whose files are all empty. -/
structure DsE (B d m n : Nat) (lim : Int) (D : DataW Value) (w : World) : Prop where
  kd : w.heap[d]? = some (.cells #[.map (some m), .int .i64 lim] 53 (0, 0))
  hm : w.ownsMap Try.prog 9 RvK m n D
  ptr : ∀ kl, Maps.has D kl = true → ∃ f, (∀ zd, D.atKey kl zd = .held (.pointer (some ⟨f, 0, none⟩))) ∧ B ≤ f ∧ w.heap[f]? = some (.cells #[.slice none 0 0, .int .i64 0] 56 (0, 0))
  lows : B ≤ d ∧ B ≤ m
theorem DsE.up {B d m n : Nat} {lim : Int} {D : DataW Value} {w w' : World} (h : DsE B d m n lim D w) (hv : Below w.heap.size w w') : DsE B d m n lim D w' :=
  ⟨keeps hv h.kd, map_keepK h.hm (hv.block m (map_ltK h.hm)), fun kl hk => by obtain ⟨f, h1, h2, h3⟩ := h.ptr kl hk; exact ⟨f, h1, h2, keeps hv h3⟩, h.lows⟩
set_option maxRecDepth 20000 in
theorem find_E0 (B d m n : Nat) (lim : Int) (D : DataW Value) (s : ByteArray) (hs : s.size ≤ maxLen) (w : World) (h : DsE B d m n lim D w) (hno : Maps.has D (klitK s) = false) :
    Calls Try.prog 22 #[.pointer (some ⟨d, 0, none⟩), .string s] w fun e w' => e = .returned (.tuple #[.pointer none, .int .i64 19]) ∧ Below w.heap.size w w' := by
  obtain ⟨v, ps, hrun, hv⟩ := h.hm.look_ok keyed_strK Try.underlying51 (zero_fileK w) (R := RvK) (zd := .held (.pointer none)) (zp := []) rfl (Go.WideMaps.keyOf_string_mk Try.underlying9 hs)
  have hno2 : Maps.has D (.string s.data.toList) = false := hno
  rw [hno2] at hrun
  obtain ⟨c0, c1⟩ := disk_cells h.kd
  clear h hv hs hno hno2
  go_enter Try.func22, Try.ntmps22
  go_wp2
  refine bodyPost_ret (v := .tuple #[.pointer none, .int .i64 19]) (by simp [results, Try.results22, go_sem]) rfl ⟨rfl, Below.refl _ _⟩
set_option maxRecDepth 20000 in
theorem used_E (B d m n : Nat) (lim : Int) (D : DataW Value) (w : World) (h : DsE B d m n lim D w) :
    Calls Try.prog 15 #[.pointer (some ⟨d, 0, none⟩)] w fun e w' => e = .returned (.int .i64 0) ∧ Below w.heap.size w w' := by
  obtain ⟨c0, c1⟩ := disk_cells h.kd
  have hm := h.hm
  replace h := Lib.hid h
  go_enter Try.func15, Try.ntmps15
  go_wp2_with (first
    | (at_range; refine wpList_range_own _ rfl _ 51 rfl 9 54 keyed_strK Try.underlying51 RvK m n D rfl hm ?_; intro w0 hrg0 hg0 hs0)
    | go_in)
  go_frame
  go_loopw [3] (fun u wr => ∃ (left : Lit → Bool) (cnt : Nat), u = .int .i64 0 ∧ wr.ranges Try.prog 9 RvK m w.heap.size n D left cnt ∧ Hid (∀ kl, left kl = true → Maps.has D kl = true) ∧ Below w.heap.size w wr) (fun _ wr => wr.rangeLeft m w.heap.size)
  case atStart => exact ⟨_, _, rfl, hrg0, Lib.hid (fun kl h => h), grown_belowK (Below.refl _ _) hg0 (Nat.le_refl _)⟩
  case round =>
    obtain ⟨left, cnt, rfl, hrg, hl, hb⟩ := hrel
    go_wp2_with (first
      | (at_next; refine wpList_next_ranges _ rfl _ rfl 9 keyed_strK RvK Value.string (fun v : Value => v) inv_strK (fun v y _ => ⟨v, rfl⟩) m w.heap.size n D _ _ rfl hrg ?_ ?_)
      | go_in)
    · intro _ hl0
      clear hl0 hl
      go_wp2
      go_ret
      exact ⟨rfl, hb⟩
    · intro x c kl y ps w1 cnt1 hk hlx hR hat hrg1 hlt hg1 hs1 hen
      obtain ⟨f, hf1, hf2, hf3⟩ := h.out.ptr kl (hl.out _ hlx)
      have e1 := hat (.held (.pointer none))
      rw [hf1] at e1
      have e2 := congrArg Prod.fst (Option.some.inj hR)
      rw [← e1] at e2
      obtain rfl : c = .pointer (some ⟨f, 0, none⟩) := by injection e2
      have hb1 := hb.grown hg1 hb.size (fun j hj => by cases hj; exact Nat.le_refl _)
      obtain ⟨y0, y1, -, -⟩ := file_cells (S := 0) (keeps hb1 hf3)
      have hl2 := hl.out
      have hr1 := hrg.left_eq
      have hr2 := hrg1.left_eq
      clear hl hR hat hlx hk hg1 hs1 hb e1 e2 hf1 hf3
      replace hrg1 := Lib.hid hrg1
      replace hb1 := Lib.hid hb1
      replace hl2 := Lib.hid hl2
      replace hlt := Lib.hid hlt
      replace hr1 := Lib.hid hr1
      replace hr2 := Lib.hid hr2
      go_wp2
      go_roundw
      case rel => exact ⟨_, cnt1, rfl, hrg1.out, Lib.hid (fun kl h => hl2.out kl (by simp only [Bool.and_eq_true] at h; exact h.1)), hb1.out⟩
      case measure => rw [hr2.out, hr1.out]; exact hlt.out
end Go.Proofs.Ytmicnkiadfihgaa
