/-
  What any gadget says of any numbers, of any polynomial: contracts that tell what is refused, and that there is an answer.
-/
import Derived.Test.YtailpfbdanhpmaaDoorGcB
namespace Go.Proofs.YtailpfbdanhpmaaDoor
open Go.RowKit F Flow
set_option linter.unusedVariables false
set_option linter.unusedSimpArgs false
attribute [local go_sem] eql_elem

/-- What Check says, where something lasts. -/
def ChkBy (f : Int) (v : Value) (W : Int) (C : World → Prop) : Prop := ∀ w, C w → Calls Tryd.prog 17 #[v, .int .u8 f] w fun e w' => e = .returned (.int .i64 W) ∧ Below w.heap.size w w'
/-- What checkIn says of so many. -/
def CinBy (f : Int) (v : Value) (L : Nat) (W : Int) (C : World → Prop) : Prop := ∀ w, C w → Calls Tryd.prog 23 #[v, .int .u8 f, .int .i64 (L : Int)] w fun e w' => e = .returned (.int .i64 W) ∧ Below w.heap.size w w'
set_option maxHeartbeats 2000000 in
theorem cin_bad (f k m W : Int) (A : Option Addr) (n c L : Nat) (C : World → Prop) (hup : ∀ w w', Below w.heap.size w w' → C w → C w') (hW : W ≠ 0) (hch : ChkBy f (gvl k A n c m) W C) : CinBy f (gvl k A n c m) L W C := fun w hC => by
  have y1 : (W == 0) = false := by rw [beq_eq_false_iff_ne]; exact hW
  have y2 : (W != 0) = true := by rw [bne_iff_ne]; exact hW
  unfold ChkBy gvl at *
  replace hch := Lib.hid hch
  replace hup := Lib.hid hup
  clear hW
  go_enter Tryd.func23, Tryd.ntmps23
  go_wp2_with fail
  refine name_calls (fun w1 => Below w.heap.size w w1) ((Below.refl _ _).alloc (Nat.le_refl _) _) ?_
  intro w1 hb
  refine call_then (hch.out _ (hup.out _ _ hb hC)) ?_
  intro w2 hb2
  replace hb := below_next hb hb.size hb2
  clear hb2
  go_wp2
  go_ret
  exact ⟨rfl, hb⟩
theorem cin_ok (f k m : Int) (A : Option Addr) (n c N L : Nat) (C : World → Prop) (hN : N ≤ 100) (hL : L ≤ 200) (hup : ∀ w w', Below w.heap.size w w' → C w → C w') (hch : ChkBy f (gvl k A n c m) 0 C) (har : ∀ w, Calls Tryd.prog 9 #[gvl k A n c m] w fun e w' => e = .returned (.int .i64 (N : Int)) ∧ Below w.heap.size w w') : CinBy f (gvl k A n c m) L (if L = N then 0 else 9) C := fun w hC =>
  gci_any f k m A n c N L C hN hL hup hch har w hC
set_option maxHeartbeats 2000000 in
theorem of_bad (f k m W : Int) (A : Option Addr) (n c L : Nat) (C : World → Prop) (hup : ∀ w w', Below w.heap.size w w' → C w → C w') (hW : W ≠ 0) (ht : CinBy f (gvl k A n c m) L W C) (B : Option Addr) (d : Nat) (w : World) (hC : C w) :
    Calls Tryd.prog 16 #[gvl k A n c m, .int .u8 f, .slice B L d] w fun e w' => e = .returned (.tuple #[.agg #[.int .u64 0, .int .u64 0], .int .i64 W]) ∧ Below w.heap.size w w' := by
  have y1 : (W == 0) = false := by rw [beq_eq_false_iff_ne]; exact hW
  have y2 : (W != 0) = true := by rw [bne_iff_ne]; exact hW
  unfold CinBy gvl at *
  have hci := Lib.hid ht
  replace hup := Lib.hid hup
  clear ht hW
  go_enter Tryd.func16, Tryd.ntmps16
  go_wp2_with fail
  refine name_calls (fun w1 => Below w.heap.size w w1 ∧ w1.heap[w.heap.size]? = some (.cells #[.int .u8 k, .slice A n c, .int .i64 m] 34 (0, 0)) ∧ w1.heap[w.heap.size + 1]? = some (.cells #[.int .u64 0, .int .u64 0] 28 (0, 0))) ⟨((Below.refl _ _).alloc (Nat.le_refl _) _).alloc (by simp) _, alloc_keeps (alloc_at rfl), alloc_at (by simp)⟩ ?_
  rintro w1 ⟨hb, k0, kr⟩
  refine call_then (hci.out _ (hup.out _ _ hb hC)) ?_
  intro w2 hb2
  replace hb := below_next hb hb.size hb2
  replace k0 := keeps hb2 k0
  replace kr := keeps hb2 kr
  clear hb2
  obtain ⟨r0, r1, r2, r3⟩ := blk2 kr
  go_wp2
  obtain ⟨p2, p3, _, _⟩ := blk2 (store2 (u := .int .u64 0) (v := .int .u64 0) kr)
  exact bodyPost_ret (v := .tuple #[.agg #[.int .u64 0, .int .u64 0], .int .i64 W]) (by simp [results, Tryd.results16, go_sem, p2, p3]) rfl ⟨rfl, below_store2 hb (Nat.le_succ _)⟩
set_option maxHeartbeats 2000000 in
theorem poly_bad (f k m W : Int) (A : Option Addr) (n c L : Nat) (C : World → Prop) (hup : ∀ w w', Below w.heap.size w w' → C w → C w') (hW : W ≠ 0) (ht : CinBy f (gvl k A n c m) L W C) (B : Option Addr) (d : Nat) (w : World) (hC : C w) :
    Calls Tryd.prog 11 #[gvl k A n c m, .int .u8 f, .slice B L d] w fun e w' => e = .returned (.tuple #[.slice none 0 0, .int .i64 W]) ∧ Below w.heap.size w w' := by
  have y1 : (W == 0) = false := by rw [beq_eq_false_iff_ne]; exact hW
  have y2 : (W != 0) = true := by rw [bne_iff_ne]; exact hW
  unfold CinBy gvl at *
  replace ht := Lib.hid ht
  replace hup := Lib.hid hup
  clear hW
  go_enter Tryd.func11, Tryd.ntmps11
  go_wp2_with fail
  refine name_calls (fun w1 => Below w.heap.size w w1) ((Below.refl _ _).alloc (Nat.le_refl _) _) ?_
  intro w1 hb
  refine call_then (ht.out _ (hup.out _ _ hb hC)) ?_
  intro w2 hb2
  replace hb := below_next hb hb.size hb2
  clear hb2
  go_wp2
  go_ret2
  exact ⟨rfl, hb⟩
set_option maxRecDepth 20000 in
set_option maxHeartbeats 4000000 in
theorem of_eval (f m x : Int) (A : Option Addr) (n c : Nat) (z : Int) (C : World → Prop) (hup : ∀ w w', Below w.heap.size w w' → C w → C w') (ht : CinBy f (gvl 2 A n c m) 1 0 C)
    (hat0 : ∀ w, C w → Calls Tryd.prog 28 #[.int .u8 f, .slice A n c, .agg #[.int .u64 (lo x), .int .u64 (hi x)]] w fun e w' => e = .returned (.agg #[.int .u64 (lo z), .int .u64 (hi z)]) ∧ Below w.heap.size w w') (b o d : Nat) (w : World) (hC : C w) (hq : ElemsAt w (some ⟨b, o, none⟩) [x]) :
    Calls Tryd.prog 16 #[gvl 2 A n c m, .int .u8 f, .slice (some ⟨b, o, none⟩) 1 d] w fun e w' => e = .returned (.tuple #[.agg #[.int .u64 (lo z), .int .u64 (hi z)], .int .i64 0]) ∧ Below w.heap.size w w' := by
  unfold CinBy gvl at *
  have hci := Lib.hid ht
  have hat := Lib.hid hat0
  replace hup := Lib.hid hup
  clear ht hat0
  go_enter Tryd.func16, Tryd.ntmps16
  go_wp2_with fail
  refine name_calls (fun w1 => Below w.heap.size w w1 ∧ w1.heap[w.heap.size]? = some (.cells #[.int .u8 2, .slice A n c, .int .i64 m] 34 (0, 0)) ∧ w1.heap[w.heap.size + 1]? = some (.cells #[.int .u64 0, .int .u64 0] 28 (0, 0))) ⟨((Below.refl _ _).alloc (Nat.le_refl _) _).alloc (by simp) _, alloc_keeps (alloc_at rfl), alloc_at (by simp)⟩ ?_
  rintro w1 ⟨hb, k0, kr⟩
  refine call_then (hci.out _ (hup.out _ _ hb hC)) ?_
  intro w2 hb2
  replace hb := below_next hb hb.size hb2
  replace k0 := keeps hb2 k0
  replace kr := keeps hb2 kr
  clear hb2
  replace hC := hup.out _ _ hb hC
  replace hq := hq.up hb
  obtain ⟨c0, c1, c2, _⟩ := blk3 k0
  go_wp2
  clear c0 c1 c2
  refine wp_region_flow1 7 (by kernel_rfl) (by kernel_rfl) (by kernel_rfl) ?_
  apply Exists.intro
  refine ⟨fun ι _ φ hφ => ?_, fun wt hwt => ?_⟩
  · have a0 : ∀ i, (φ i).cell? ⟨w.heap.size, 1, none⟩ = some (.slice A n c) := fun i => (blk3 (keeps (hφ.old i) k0)).2.1
    have a2 : ∀ i, (φ i).cell? ⟨b, o, none⟩ = some (.int .u64 (lo x)) := fun i => by obtain ⟨b', o', e, h, _⟩ := (hq.up (hφ.old i)) 0 (by simp); cases e; simpa using h
    have a3 : ∀ i, (φ i).cell? ⟨b, o + 1, none⟩ = some (.int .u64 (hi x)) := fun i => by obtain ⟨b', o', e, _, h⟩ := (hq.up (hφ.old i)) 0 (by simp); cases e; simpa using h
    have hat' := fun i => hat.out (φ i) (hup.out _ _ (hφ.old i) hC)
    simp only [List.take_succ_cons, List.take_zero]
    repeat (go_big_quiet_step ((go_at_call 28; exact flow_call hφ (hat' _))))
    exact wpQuiet_nil rfl
  replace hb := below_next hb hb.size hwt
  replace kr := keeps hwt kr
  clear hwt
  simp only [List.drop_succ_cons, List.drop_zero]
  obtain ⟨s0, s1, s2, s3⟩ := blk2 kr
  go_wp2
  obtain ⟨p2, p3, _, _⟩ := blk2 (store2 (u := .int .u64 (lo z)) (v := .int .u64 (hi z)) kr)
  exact bodyPost_ret (v := .tuple #[.agg #[.int .u64 (lo z), .int .u64 (hi z)], .int .i64 0]) (by simp [results, Tryd.results16, go_sem, p2, p3]) rfl ⟨rfl, below_store2 hb (Nat.le_succ _)⟩
set_option maxRecDepth 20000 in
set_option maxHeartbeats 4000000 in
theorem poly_eval (f m : Int) (A : Option Addr) (n c : Nat) (C : World → Prop) (hup : ∀ w w', Below w.heap.size w w' → C w → C w') (ht : CinBy f (gvl 2 A n c m) 1 0 C) (B : Option Addr) (nb cb : Nat)
    (hev : ∀ w, C w → Calls Tryd.prog 24 #[gvl 2 A n c m, .int .u8 f, .slice B nb cb] w fun e w' => ∃ A' L, e = .returned (.tuple #[.slice A' L L, .int .i64 0]) ∧ Below w.heap.size w w') (g o d : Nat) (w : World) (hC : C w) (hq : w.cell? ⟨g, o, none⟩ = some (.slice B nb cb)) :
    Calls Tryd.prog 11 #[gvl 2 A n c m, .int .u8 f, .slice (some ⟨g, o, none⟩) 1 d] w fun e w' => ∃ A' L, e = .returned (.tuple #[.slice A' L L, .int .i64 0]) ∧ Below w.heap.size w w' := by
  unfold CinBy gvl at *
  replace ht := Lib.hid ht
  replace hev := Lib.hid hev
  replace hup := Lib.hid hup
  have hgl := World.block_lt_of_cell? _ _ hq
  go_enter Tryd.func11, Tryd.ntmps11
  go_wp2_with fail
  refine name_calls (fun w1 => Below w.heap.size w w1 ∧ w1.heap[w.heap.size]? = some (.cells #[.int .u8 2, .slice A n c, .int .i64 m] 34 (0, 0))) ⟨(Below.refl _ _).alloc (Nat.le_refl _) _, alloc_at rfl⟩ ?_
  rintro w1 ⟨hb, k0⟩
  refine call_then (ht.out _ (hup.out _ _ hb hC)) ?_
  intro w2 hb2
  replace hb := below_next hb hb.size hb2
  replace k0 := keeps hb2 k0
  clear hb2
  obtain ⟨c0, c1, c2, _⟩ := blk3 k0
  go_wp2
  clear c0 c1 c2
  refine seg_start 10 (by kernel_rfl) (by decide) ?_
  intro v0 hv
  replace hb := below_next hb hb.size hv
  replace k0 := keeps hv k0
  clear hv
  have hq1 := (hb.cell hgl).trans hq
  refine seg_batch 5 [0, 1, 2, 3, 4] (by kernel_rfl) rfl (by kernel_rfl) (by kernel_rfl) (by kernel_rfl) ?_
  apply Exists.intro
  refine ⟨fun ι _ φ hφ => ?_, fun v1 hv => ?_⟩
  · have a0 : ∀ i, (φ i).cell? ⟨w.heap.size, 0, none⟩ = some (.int .u8 2) := fun i => (blk3 (keeps (hφ.old i) k0)).1
    have a1 : ∀ i, (φ i).cell? ⟨w.heap.size, 1, none⟩ = some (.slice A n c) := fun i => (blk3 (keeps (hφ.old i) k0)).2.1
    have a2 : ∀ i, (φ i).cell? ⟨w.heap.size, 2, none⟩ = some (.int .i64 m) := fun i => (blk3 (keeps (hφ.old i) k0)).2.2.1
    have a3 := fun i => hφ.cell hq1 i
    repeat (refine pick_step rfl ?_; go_big_quiet_step (fail))
    exact pick_end
  replace hb := below_next hb hb.size hv
  clear hv k0 hq1
  refine seg_one 5 _ (by decide) rfl (by kernel_rfl) ?_
  intro v2 K hv hK
  replace hb := below_next hb hb.size hv
  clear hv
  replace hK := Lib.hid hK
  go_simp
  refine (hev.out _ (hup.out _ _ hb hC)).mono ?_
  rintro e v3 ⟨A', L, rfl, hv⟩
  refine hK.out _ _ hv ?_
  clear hK K
  replace hb := below_next hb hb.size hv
  clear hv
  refine seg_batch 0 [6, 7, 8, 9] (by kernel_rfl) rfl (by kernel_rfl) (by kernel_rfl) (by kernel_rfl) ?_
  apply Exists.intro
  refine ⟨fun ι _ φ hφ => ?_, fun v4 hv => ?_⟩
  · repeat (refine pick_step rfl ?_; go_big_quiet_step (fail))
    exact pick_end
  replace hb := below_next hb hb.size hv
  clear hv
  refine seg_done rfl (by kernel_rfl) ?_
  intro v5 hv
  replace hb := below_next hb hb.size hv
  clear hv
  go_wp2
  go_ret2
  exact ⟨A', L, rfl, hb⟩
end Go.Proofs.YtailpfbdanhpmaaDoor
