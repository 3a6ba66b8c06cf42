/-
  Totals: none; the sum of two's; two as one.
-/
import Derived.Test.YtpojhomccmfffaaDoorTtC
import Derived.Test.YtpojhomccmfffaaDoorDB
namespace Go.Proofs.YtpojhomccmfffaaDoor
open Go.RowKit Flow F
set_option linter.unusedVariables false
set_option linter.unusedSimpArgs false

theorem results_cell_tmpT {P : Program} {fn : Func} {tmps : Array Value} {w : World} {a j : Nat} {t : TypeId} {b : Nat} {v v2 : Value} (hr : fn.results = #[.cell a t, .tmp j]) (ha : tmps.getD a undef = .pointer (some ⟨b, 0, none⟩))
    (h : (loadVar t ⟨b, 0, none⟩).run P w = .ok v w) (hj : tmps.getD j undef = v2) : (results fn tmps).run P w = .ok (.tuple #[v, v2]) w := by
  rw [Array.getD_eq_getD_getElem?] at ha hj
  simp [results, hr, asAddr, ha, h, hj]
theorem index_arr8 {t : TypeId} (ht : Tryd.prog.underlying t = some (.array 16 5)) (g : Nat → Nat) {k : Nat} (hk : k < 16) (w : World) : (Instr.index t (.agg (arr8 g 16).toArray) (.int .i64 (k : Int))).run Tryd.prog w = .ok (.int .u8 ((g k : Nat) : Int)) w := by
  have hn : (0 : Int) ≤ (k : Int) ∧ (k : Int) < 16 := by omega
  have hs := Tryd.sizeOf5 w
  have hg := arr8_get g hk
  simp [Instr.index, run_underlying ht, asIntOf, go_sem, hn, hs, hk, hg]
def Lim8 (f : Nat → Nat) : Prop := ∀ i, i < 16 → f i < 256
def xorF (f g : Nat → Nat) : Nat → Nat := fun i => f i ^^^ g i
theorem xor_lt8 {a b : Nat} (ha : a < 256) (hb : b < 256) : a ^^^ b < 256 := Nat.xor_lt_two_pow (n := 8) ha hb
theorem xorF_lim {f g : Nat → Nat} (hf : Lim8 f) (hg : Lim8 g) : Lim8 (xorF f g) := fun i hi => xor_lt8 (hf i hi) (hg i hi)
/-- A block of sixteen bytes, of a check. -/
def OctC (w : World) (g : Nat) (h : Nat → Nat) : Prop := w.heap[g]? = some (.cells (arr8 h 16).toArray 37 (0, 0))
theorem OctC.cell {w : World} {g i : Nat} {h : Nat → Nat} (o : OctC w g h) (hi : i < 16) : w.cell? ⟨g, i, none⟩ = some (.int .u8 ((h i : Nat) : Int)) := by
  unfold OctC at o
  simp [World.cell?, o, arr8_get h hi]
theorem OctC.free {w : World} {g i : Nat} {h : Nat → Nat} (o : OctC w g h) : w.frozen? ⟨g, i, none⟩ = false := by
  unfold OctC at o
  simp [World.frozen?, o]
theorem OctC.set {w : World} {g k : Nat} {h : Nat → Nat} (o : OctC w g h) (v : Nat) : OctC (w.setCell ⟨g, k, none⟩ (.int .u8 ((v : Nat) : Int))) g (upd h k v) := by
  unfold OctC at o ⊢
  rw [store1 o, arr8_set]
theorem OctC.congr {w : World} {g : Nat} {h h' : Nat → Nat} (o : OctC w g h) (e : ∀ i, i < 16 → h i = h' i) : OctC w g h' := by
  unfold OctC at o ⊢
  rw [o, arr8_congr e]
theorem zeroC_arr : zeroC = arr8 (fun _ => 0) 16 := rfl
theorem info_check : ((Tryd.prog).info? 37).map (·.size) = some 16 := by kernel_rfl
set_option maxRecDepth 20000 in
set_option maxHeartbeats 4000000 in
theorem with_ok (f g : Nat → Nat) (hf : Lim8 f) (hg : Lim8 g) (w : World) : Calls Tryd.prog 17 #[.agg (arr8 f 16).toArray, .agg (arr8 g 16).toArray] w fun e w' => e = .returned (.agg (arr8 (xorF f g) 16).toArray) ∧ Below w.heap.size w w' := by
  have hi := Lib.hid (fun (k : Nat) (hk : k < 16) (w : World) => index_arr8 (t := 37) Tryd.underlying37 g hk w)
  replace hf := Lib.hid hf
  replace hg := Lib.hid hg
  go_enter Tryd.func17, Tryd.ntmps17
  go_upto_region 1 with (fail)
  refine name_wp (fun w1 => Below w.heap.size w w1 ∧ w1.heap.size = w.heap.size + 3 ∧ OctC w1 w.heap.size f ∧ OctC w1 (w.heap.size + 1) g ∧ OctC w1 (w.heap.size + 2) (fun _ => 0))
    ⟨(((Below.refl _ _).alloc (Nat.le_refl _) _).alloc (by simp) _).alloc (by simp; omega) _, by simp, alloc_keeps (alloc_keeps (alloc_at rfl)), alloc_keeps (alloc_at (by simp)), alloc_at (by simp)⟩ ?_
  rintro w1 ⟨hb, hsz, k0, k1, k2⟩
  have l1 := arr8_len g 16
  go_upto_region 2 with (first | (refine list_load_mid _ _ _ 0 _ _ rfl rfl rfl (At0.of_block k1) Tryd.underlying37 rfl (by rw [l1]; kernel_rfl) ?_))
  go_loopw [8] (fun i wr => ∃ k : Nat, k ≤ 16 ∧ i = .int .i64 (k : Int) ∧ Below w.heap.size w wr ∧ OctC wr w.heap.size (part (xorF f g) f k) ∧ OctC wr (w.heap.size + 2) (fun _ => 0)) (fun i _ => 16 - (intOf i).toNat)
  case atStart => exact ⟨0, by omega, rfl, hb, OctC.congr k0 fun i _ => part_zero _ _ i, k2⟩
  case round =>
    clear hb k0 k1 k2 hsz
    obtain ⟨k, hk, rfl, hb, ho, h2⟩ := hrel
    by_cases hlt : k < 16
    · have i0 : (0 : Int) ≤ (k : Int) := by omega
      have i1 : (k : Int) < 16 := by omega
      have hik := hi.out k hlt
      have c0 := ho.cell hlt
      have c1 : wr.frozen? ⟨w.heap.size, k, none⟩ = false := ho.free
      rw [part_at] at c0
      have hx := u8_xor_nat (f k) (g k) (hf.out k hlt) (hg.out k hlt)
      have ho2 := ho.set (k := k) (xorF f g k)
      rw [show upd (part (xorF f g) f k) k (xorF f g k) = part (xorF f g) f (k + 1) from funext fun i => part_step _ _ _ _] at ho2
      have h22 : OctC (wr.setCell ⟨w.heap.size, k, none⟩ (.int .u8 ((xorF f g k : Nat) : Int))) (w.heap.size + 2) (fun _ => 0) := store_far h2 (by show w.heap.size + 2 ≠ w.heap.size; omega)
      have hb2 := hb.setCell (p := ⟨w.heap.size, k, none⟩) (Nat.le_refl _) (.int .u8 ((xorF f g k : Nat) : Int))
      change bits BinOp.xor IntKind.u8 _ _ = ((xorF f g k : Nat) : Int) at hx
      generalize xorF f g k = z at *
      replace ho2 := Lib.hid ho2
      replace h22 := Lib.hid h22
      replace hb2 := Lib.hid hb2
      clear ho h2 hb
      go_wp2
      exact ⟨⟨k + 1, by omega, by go_num, hb2.out, ho2.out, h22.out⟩, left_u (by assumption)⟩
    · obtain rfl : k = 16 := by omega
      have ho2 := OctC.congr ho fun i hi => part_all _ _ hi
      have l2 := arr8_len (xorF f g) 16
      clear ho hi hf hg l1
      generalize hcs : arr8 (xorF f g) 16 = cs at *
      unfold OctC at ho2
      rw [hcs] at ho2
      have hone := Lib.hid (hcs ▸ one_arr8 (xorF f g) 16)
      replace hcs := Lib.hid hcs
      go_wp2_with (first
        | (refine list_load_mid _ _ _ 0 _ _ rfl rfl rfl (At0.of_block ho2) Tryd.underlying37 rfl (by rw [l2]; kernel_rfl) ?_)
        | (refine list_store_whole _ _ _ _ cs zeroC 37 rfl rfl rfl rfl h2 (by rw [l2]; rfl) (by rw [l2]; kernel_rfl) hone.out ?_; intro w7 hbut kr))
      have hbe := hbut.below hb (by omega) hb.size
      have hlv := loadVar_whole (P := Tryd.prog) (ty := 37) _ (At0.of_block kr) Tryd.underlying37 rfl (by rw [l2]; kernel_rfl)
      exact bodyPost_ret (v := .agg cs.toArray) (results_cellT Tryd.results17 rfl hlv) rfl ⟨by rw [hcs.out], hbe⟩
end Go.Proofs.YtpojhomccmfffaaDoor
