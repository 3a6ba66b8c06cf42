/-
  A disk's names: as many as it has files.
-/
import Derived.Test.YtmicnkiadfihgaaDmE
import Derived.Sort.Defs
import Derived.Sort.OwnSorted
import Derived.Sort.KeysCollected
import Derived.Laws.MakeOwn
namespace Go.Proofs.Ytmicnkiadfihgaa
open Go.RowKit Flow Go.Maps Go.Sort
set_option linter.unusedVariables false
set_option linter.unusedSimpArgs false

theorem info_strK : (Try.prog.info? 9).map (fun i => (i.zero.map (fun z => z.cells.size), i.size, i.bytes)) = some (some 1, 1, 16) := by kernel_rfl
theorem strs_upK {w w' : World} {B n : Nat} {v : Value} {xs : List Value} (h : w.ownsRow B 9 1 v n xs) (hb : Below w.heap.size w w') : w'.ownsRow B 9 1 v n xs := owns_upU h hb
theorem cell_newK (w : World) (x : Value) (t : TypeId) : ∀ j u, [x][j]? = some u → (w.alloc (.cells #[x] t (0, 0))).cell? (Addr.add ⟨w.heap.size, 0, none⟩ j) = some u := fun j u hj => by
  rw [Addr.add_mid, Nat.zero_add]
  simp only [World.cell?, (alloc_at rfl : (w.alloc (.cells #[x] t (0, 0))).heap[w.heap.size]? = some (.cells #[x] t (0, 0)))]
  simpa using hj
/-- What the library's sort of strings does. -/
def SortK : Prop := ∀ (blk cap : Nat) (ss : List (List UInt8)) (w : World), Holds encStr w blk 0 ss.toArray → blk < w.heap.size → ss.length < 4611686018427387904 →
  Calls Try.prog 26 #[.slice (some ⟨blk, 0, none⟩) ss.length cap] w fun e w' => e = .returned (.tuple #[]) ∧ ∃ n os, w' = grow (putRow encStr (Sort.ahead w n) blk 0 (ss.mergeSort fun x y => decide (x ≤ y)).toArray) os
set_option maxRecDepth 20000 in
set_option maxHeartbeats 4000000 in
/-- The names of a disk: its keys, sorted. -/
theorem names_any (d m n : Nat) (lim : Int) (D : DataW Value) (w : World) (kd : w.heap[d]? = some (.cells #[.map (some m), .int .i64 lim] 53 (0, 0))) (hm : w.ownsMap Try.prog 9 RvK m n D) (hmax : Maps.size D ≤ 4096) (hsort : SortK) :
    Calls Try.prog 16 #[.pointer (some ⟨d, 0, none⟩)] w fun e w' => ∃ (g cap : Nat) (ss : List (List UInt8)), e = .returned (.slice (some ⟨g, 0, none⟩) ss.length cap) ∧ ss.Perm (strKeys D) ∧ Below w.heap.size w w' ∧
      w'.ownsRow w.heap.size 9 1 (.slice (some ⟨g, 0, none⟩) ss.length cap) ss.length ((ss.mergeSort (fun x y => decide (x ≤ y))).map encStr) := by
  obtain ⟨i0, z0, hinf, hz0, hz1, hz2, hz3⟩ := info_partsU info_strK
  have hlen := fun ty => hm.len (t := 51) Try.underlying51 ty
  obtain ⟨N, hN⟩ : ∃ N, Maps.size D = N := ⟨_, rfl⟩
  rw [hN] at hlen hmax
  have hbl := map_ltK hm
  have b3 : i0.bytes * N ≤ 281474976710656 := by rw [hz2]; omega
  have b4 : N ≤ maxLen := by unfold maxLen; omega
  obtain ⟨c0, c1⟩ := disk_cells kd
  replace hN := Lib.hid hN
  replace kd := Lib.hid kd
  go_enter Try.func16, Try.ntmps16
  go_upto_region 4 with (at_make; refine wpList_make_own _ rfl _ _ 34 rfl w.heap.size 9 i0 z0 1 Try.underlying34 hinf hz0 hz1 .i64 .i64 _ N rfl rfl rfl b3 b4 (Nat.le_refl _) ?_; intro w1 hrow1 hg1)
  have hb1 := (Below.refl w.heap.size w).grown hg1 (Nat.le_refl _) (fun j hj => by cases hj)
  have kd1 := keeps hb1 kd.out
  have hm1 := map_keepK hm (hb1.block m hbl)
  obtain ⟨c2, c3⟩ := disk_cells kd1
  have hnn1 : (Value.slice (some ⟨w.heap.size, 0, none⟩) 0 N : Value) ≠ .slice none 0 0 := fun e => by cases e
  replace hrow1 := Lib.hid hrow1
  have hs1 := hb1.size
  replace hb1 := Lib.hid hb1
  replace kd1 := Lib.hid kd1
  clear c0 c1 hg1
  go_wp2_with (first
    | (at_range; refine wpList_range_own _ rfl _ 51 rfl 9 54 keyed_strK Try.underlying51 RvK m n D rfl hm1 ?_; intro w2 hrg0 hg0 hs0)
    | go_in)
  clear hs0
  go_frame
  go_loopw [3] (fun v wr => ∃ (left : Lit → Bool) (cnt : Nat) (ss : List (List UInt8)), wr.ranges Try.prog 9 RvK m w1.heap.size n D left cnt ∧ Hid (ss.length + cnt ≤ N) ∧
      Hid (wr.ownsRow w.heap.size 9 1 v ss.length (ss.map encStr)) ∧ Hid (v ≠ .slice none 0 0) ∧ Hid (Collected D left ss) ∧ Hid (Below w.heap.size w wr)) (fun _ wr => wr.rangeLeft m w1.heap.size)
  case atStart => exact ⟨_, _, [], hrg0, Lib.hid (by rw [← hN.out]; simp), Lib.hid (hrow1.out.kept hg0 (Or.inr (by simp [Value.ownBlock]))), Lib.hid hnn1, Lib.hid (Collected.start D), Lib.hid (hb1.out.grown hg0 hs1 (fun j hj => by cases hj))⟩
  case round =>
    obtain ⟨left, cnt, ss, hrg, hcs, hrow, hnn, hC, hb⟩ := hrel
    go_wp2_with (first
      | (at_next; refine wpList_next_ranges _ rfl _ rfl 9 keyed_strK RvK encStr (fun v : Value => v) (fun key kl hk => by obtain ⟨x, hx, _⟩ := Maps.keyOf_str Try.underlying9 hk; exact ⟨x, hx⟩) (fun v y _ => ⟨v, rfl⟩) m w1.heap.size n D _ _ rfl hrg ?_ ?_)
      | go_in)
    · intro hc0 hl0
      rcases hrow.out.2 with ⟨hnil, _⟩ | ⟨g, cap, cur, rfl, hbase, hbk, h1, h2, h3, h4⟩
      · exact absurd hnil hnn.out
      have hH : Holds encStr wr g 0 ss.toArray := holds_of_block hbk (by simpa using h4)
      have hgl : g < wr.heap.size := (Array.getElem?_eq_some_iff.1 hbk).1
      have hcc := Lib.hid (hsort g cap ss wr hH hgl (by have := hcs.out; omega))
      have hperm := Lib.hid (hC.out.perm hm keyed_strK Try.underlying9 hl0)
      clear hC hl0 hc0 hH h4 hgl
      replace h3 := Lib.hid h3
      replace hbk := Lib.hid hbk
      replace h1 := Lib.hid h1
      replace hbase := Lib.hid hbase
      go_wp2_with fail
      refine hcc.out.mono ?_
      rintro e w' ⟨rfl, nn, os, rfl⟩
      go_wp2
      go_ret
      exact ⟨g, cap, ss, rfl, hperm.out, hb.out.grown (grownBy_sorted _) hb.out.size (fun j hj => by cases hj; exact hbase.out), ownsRow_sorted (by simp) hbase.out hbk.out h1.out h2 h3.out⟩
    · intro x c kl y ps w3 cnt1 hk hlx hR hat hrg1 hlt hg1 hs1 hen
      obtain ⟨x', ex, rfl, hxl⟩ := Maps.keyOf_str Try.underlying9 hk
      obtain rfl : x = x' := encStr_inj ex
      have hrow2 := hrow.out.kept hg1 (Or.inr (row_ne_iter hrow.out hrg).symm)
      have hC2 := Lib.hid (hC.out.step hlx hat)
      have hr1 := hrg.left_eq
      have hbB := hb.out.grown hg1 hb.out.size (fun j hj => by cases hj; exact hb1.out.size)
      have hsz3 := hbB.size
      have tA : ss.length + 1 ≤ N := by have := hcs.out; omega
      have t1 : ss.length + 1 ≤ maxLen := by omega
      have t2 : (ss.length + 1) * 16 ≤ 140737488355328 := by omega
      have t3 : w.heap.size ≤ (w3.alloc (.cells #[encStr x] 9 (0, 0))).heap.size := by simp; omega
      replace hrow2 := Lib.hid (hrow2.alloc (.cells #[encStr x] 9 (0, 0)))
      replace hbB := Lib.hid hbB
      clear hC hlx hat hk hg1 hs1 hb hrow
      go_wp2_with (first
        | (at_builtin; go_loud (refine wpList_append_own _ rfl _ _ 34 rfl w.heap.size 9 i0 z0 1 16 Try.underlying34 hinf hz0 hz1 hz2 hz3 (by decide) _ _ _ rfl hrow2.out ⟨w3.heap.size, 0, none⟩ 1 1 [encStr x] rfl rfl (cell_newK _ _ _) (by simp [Value.oneCell', encStr]) t1 t2 t3 ?_); intro v' w4 hown4 hg4 hnil4; go_frame)
        | go_in)
      have hrg2 := (hrg1.alloc (.cells #[encStr x] 9 (0, 0))).kept hg4 (row_ne_low hrow2.out hbl) (row_ne_iter hrow2.out (hrg1.alloc _))
      go_roundw
      case rel =>
        refine ⟨_, cnt1, ss ++ [x], hrg2, Lib.hid (by have := hcs.out; simp; omega), Lib.hid (by simpa using hown4), Lib.hid (fun hv' => by have := (hnil4.1 hv').2; omega), hC2, Lib.hid ?_⟩
        exact (hbB.out.alloc hsz3 _).grown hg4 t3 (fun j hj => (hrow2.out.lt j hj).1)
      case measure => rw [hrg2.left_eq, hr1]; exact hlt
end Go.Proofs.Ytmicnkiadfihgaa
