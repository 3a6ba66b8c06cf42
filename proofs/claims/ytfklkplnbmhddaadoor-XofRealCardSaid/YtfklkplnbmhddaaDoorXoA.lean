/-
  What a stream's question is: program.
-/
import Derived.Test.YtfklkplnbmhddaaDoorAppWh
import Derived.Test.YtfklkplnbmhddaaDoorKkP
import Derived.Test.YtfklkplnbmhddaaDoorOwn
import Derived.Lib.AppendStr
import Derived.Deep.RegionWith
import Derived.Deep.DeepCutAuto
import Derived.Deep.CutBlock
namespace Go.Proofs.YtfklkplnbmhddaaDoor
open Go.RowKit Flow
open Go.Lib (strCells strCells_length wpList_append_own_string)
set_option linter.unusedVariables false
set_option linter.unusedSimpArgs false

/-- A string's bytes as numbers. -/
def sbytes (s : ByteArray) : List Int := s.data.toList.map (fun b => ((b.toNat : Nat) : Int))
theorem sbytes_len (s : ByteArray) : (sbytes s).length = s.size := by simp [sbytes]
theorem str_cells (s : ByteArray) : strCells s = (sbytes s).map (Value.int .u8) := by simp [strCells, sbytes, List.map_map]
/-- A question. -/
def qu (tag : ByteArray) (use : Int) (sd bs : List Int) : List Int := (tag.size : Int) :: (sbytes tag ++ ([use % 256, use / 256] ++ (sd ++ bs)))
theorem qu_len (tag : ByteArray) (use : Int) (sd bs : List Int) : (qu tag use sd bs).length = 1 + tag.size + 2 + sd.length + bs.length := by simp [qu, sbytes_len]; omega
theorem news_alloc (w : World) (cs : List Value) (t : TypeId) (fr : Nat × Nat) (c : Nat) : News (w.alloc (.cells cs.toArray t fr)) (some ⟨w.heap.size, 0, none⟩) cs.length c 1 cs := by
  refine ⟨by simp, fun h => (by cases h), fun ad ha j u hj => ?_⟩
  cases ha
  rw [Addr.add_mid]
  simp only [World.cell?, Nat.zero_add]
  rw [alloc_at rfl]
  simpa using hj
theorem news_blk {w : World} {p : Nat} {cs : List Value} {t : TypeId} {fr : Nat × Nat} (h : w.heap[p]? = some (.cells cs.toArray t fr)) (c : Nat) : News w (some ⟨p, 0, none⟩) cs.length c 1 cs := by
  refine ⟨by simp, fun h => (by cases h), fun ad ha j u hj => ?_⟩
  cases ha
  rw [Addr.add_mid]
  simp only [World.cell?, Nat.zero_add]
  rw [h]
  simpa using hj
theorem one_bytes (ys : List Int) : ∀ u ∈ ys.map (Value.int .u8), u.oneCell' = true := fun u hu => by obtain ⟨x, _, rfl⟩ := List.mem_map.1 hu; rfl
theorem owns_base {w : World} {B B' n size : Nat} {e : TypeId} {v : Value} {xs : List Value} (h : w.ownsRow B e size v n xs) (hB : B' ≤ B) : w.ownsRow B' e size v n xs := by
  refine ⟨h.1, ?_⟩
  rcases h.2 with hn | ⟨g, cap, cur, e1, hb, rest⟩
  · exact .inl hn
  · exact .inr ⟨g, cap, cur, e1, Nat.le_trans hB hb, rest⟩
theorem owns_some {w : World} {B n size : Nat} {e : TypeId} {v : Value} {xs : List Value} (h : w.ownsRow B e size v n xs) (hn : 0 < n) : ∃ g c, v = .slice (some ⟨g, 0, none⟩) n c := by
  rcases h.2 with ⟨rfl, h0⟩ | ⟨g, cap, cur, e1, _⟩
  · omega
  · exact ⟨g, cap, e1⟩
theorem below_grown {B : Nat} {w w1 w2 : World} {v : Value} {n size : Nat} {e : TypeId} {xs : List Value} (hb : Below B w w1) (hs : B ≤ w1.heap.size) (hown : w1.ownsRow (B + 1) e size v n xs) (hg : w1.grownBy w2 v.ownBlock) : Below B w w2 :=
  hb.grown hg hs (fun k hk => by have := (hown.lt k hk).1; omega)
theorem keeps_grown {B : Nat} {w1 w2 : World} {v : Value} {n size : Nat} {e : TypeId} {xs : List Value} {o : Obj} (hown : w1.ownsRow (B + 1) e size v n xs) (hg : w1.grownBy w2 v.ownBlock) (h : w1.heap[B]? = some o) : w2.heap[B]? = some o :=
  (hg.block B (lt_of_get h) (fun e => by have := (hown.lt B e.symm).1; omega)).trans h
set_option maxHeartbeats 4000000 in
theorem ask_ok (tag : ByteArray) (use : Int) (sd : List Int) (A : Option Addr) (c : Nat) (bs : List Int) (ht : tag.size ≤ 255) (hu0 : 0 ≤ use) (hu1 : use < 65536) (hs : sd.length = 16) (hbl : bs.length ≤ 65536) (w : World)
    (hN : News w A bs.length c 1 (bs.map (Value.int .u8))) :
    Calls Tryd.prog 24 #[.string tag, .int .u16 use, .agg (sd.map (Value.int .u8)).toArray, .slice A bs.length c] w fun e w' => ∃ g cap, e = .returned (.slice (some ⟨g, 0, none⟩) (qu tag use sd bs).length cap) ∧ Below w.heap.size w w' ∧
      w'.ownsRow w.heap.size 5 1 (.slice (some ⟨g, 0, none⟩) (qu tag use sd bs).length cap) (qu tag use sd bs).length ((qu tag use sd bs).map (Value.int .u8)) := by
  obtain ⟨i0, hinf, hz0, hz1, hz2⟩ := info_parts info_byte
  obtain ⟨C, hC⟩ : ∃ C, 19 + tag.size + bs.length = C := ⟨_, rfl⟩
  have hlq := qu_len tag use sd bs
  rw [hs, show 1 + tag.size + 2 + 16 + bs.length = C by omega] at hlq
  rw [hlq]
  have T0 : (0 : Int) ≤ (tag.size : Int) := by omega
  have T1 : (tag.size : Int) ≤ 255 := by omega
  have N0 : (0 : Int) ≤ (bs.length : Int) := by omega
  have N1 : (bs.length : Int) ≤ 65536 := by omega
  obtain ⟨a1, ha1⟩ : ∃ a1, 1 + tag.size = a1 := ⟨_, rfl⟩
  obtain ⟨a2, ha2⟩ : ∃ a2, a1 + 2 = a2 := ⟨_, rfl⟩
  obtain ⟨a3, ha3⟩ : ∃ a3, a2 + 16 = a3 := ⟨_, rfl⟩
  have z1 : IntKind.i64.wrap (1 + (tag.size : Int)) = (a1 : Int) := wrap_nat (by omega) (by omega)
  have z2 : IntKind.i64.wrap ((a1 : Int) + 2) = (a2 : Int) := wrap_nat (by omega) (by omega)
  have z3 : IntKind.i64.wrap ((a2 : Int) + 16) = (a3 : Int) := wrap_nat (by omega) (by omega)
  have z4 : IntKind.i64.wrap ((a3 : Int) + (bs.length : Int)) = (C : Int) := wrap_nat (by omega) (by omega)
  have hCb : C ≤ 70000 := by omega
  replace ha1 := Lib.hid ha1
  replace ha2 := Lib.hid ha2
  replace ha3 := Lib.hid ha3
  replace hN := Lib.hid hN
  replace hlq := Lib.hid hlq
  replace hC := Lib.hid hC
  replace hs := Lib.hid hs
  go_enter Tryd.func24, Tryd.ntmps24
  go_upto_region 1 with (fail)
  have b2 : i0.bytes * C ≤ 281474976710656 := by rw [hz2]; omega
  have b3 : C ≤ maxLen := by unfold maxLen; omega
  have b4 : w.heap.size + 1 ≤ (w.alloc (.cells (sd.map (Value.int .u8)).toArray 28 (0, 0))).heap.size := by simp
  go_upto_region 2 with (at_make; go_loud (refine wpList_make_own _ rfl _ _ 29 rfl (w.heap.size + 1) 5 i0 (.int .u8 0) 1 Tryd.underlying29 hinf hz0 hz1 .i64 .i64 _ C rfl rfl rfl b2 b3 b4 ?_); intro w1 hown1 hg1)
  have hb1 : Below w.heap.size w w1 := ((Below.refl w.heap.size w).alloc (Nat.le_refl _) _).grown hg1 (by simp) (fun k hk => by cases hk)
  have hk1 : w1.heap[w.heap.size]? = some (.cells (sd.map (Value.int .u8)).toArray 28 (0, 0)) := (hg1.block _ (by simp) (by simp)).trans (alloc_at rfl)
  have hs1 : w.heap.size + 1 ≤ w1.heap.size := by simpa using hg1.size
  rw [show (w.alloc (.cells (sd.map (Value.int .u8)).toArray 28 (0, 0))).heap.size = w.heap.size + 1 by simp] at hown1
  have t1 : 0 + 1 ≤ maxLen := by unfold maxLen; omega
  have t2 : (0 + 1) * 1 ≤ 140737488355328 := by omega
  go_upto_region 3 with (at_builtin; go_loud (refine wpList_append_wh rfl _ _ 29 rfl (w.heap.size + 1) 5 i0 (.int .u8 0) 1 1 Tryd.underlying29 hinf hz0 hz1 hz2 rfl (by decide) _ _ _ rfl (hown1.alloc _) _ _ _ _ rfl (news_alloc w1 [.int .u8 (tag.size : Int)] 5 (0, 0) 1) (one_bytes [(tag.size : Int)]) t1 t2 (by simp; omega) ?_); intro v5 w5 hown5 hg5 hwh5)
  have hb2 := below_grown (hb1.alloc hb1.size _) (by simp; omega) (hown1.alloc _) hg5
  have hk2 := keeps_grown (hown1.alloc _) hg5 (alloc_keeps hk1)
  have hs2 : w.heap.size + 1 ≤ w5.heap.size := by have := hg5.size; simp at this; omega
  obtain ⟨g2, k2, rfl⟩ := owns_some hown5 (by omega)
  clear hb1 hk1 hown1 hg5 hwh5 hg1 t1 t2 z1 z2 z3 z4 b2 b3 b4
  have t1 : 0 + 1 + tag.size ≤ maxLen := by unfold maxLen; omega
  have t2 : 0 + 1 + tag.size ≤ 140737488355328 := by omega
  go_upto_region 4 with (at_builtin; go_loud (refine wpList_append_own_string _ rfl _ _ 29 9 rfl (w.heap.size + 1) 5 i0 Tryd.underlying29 Tryd.underlying9 hinf hz0 hz1 hz2 _ _ _ rfl hown5 tag rfl t1 t2 hs2 ?_); intro v6 w6 hown6 hg6 hn6)
  have hb3 := below_grown hb2 hb2.size hown5 hg6
  have hk3 := keeps_grown hown5 hg6 hk2
  have hs3 : w.heap.size + 1 ≤ w6.heap.size := by have := hg6.size; omega
  obtain ⟨g3, k3, rfl⟩ := owns_some hown6 (by omega)
  clear hb2 hk2 hown5 hg6 hn6 t1 t2 hs2
  have u1 : 0 ≤ use % 256 ∧ use % 256 < 256 := by omega
  have u2 : 0 ≤ use / 256 ∧ use / 256 < 256 := by omega
  have t1 : (0 + 1 + tag.size) + 2 ≤ maxLen := by unfold maxLen; omega
  have t2 : ((0 + 1 + tag.size) + 2) * 1 ≤ 140737488355328 := by omega
  go_upto_region 5 with (at_builtin; go_loud (refine wpList_append_wh rfl _ _ 29 rfl (w.heap.size + 1) 5 i0 (.int .u8 0) 1 1 Tryd.underlying29 hinf hz0 hz1 hz2 rfl (by decide) _ _ _ rfl (hown6.alloc _) _ _ _ _ rfl (news_alloc w6 [.int .u8 (use % 256), .int .u8 (use / 256)] 5 (0, 0) 2) (one_bytes [use % 256, use / 256]) t1 t2 (by simp; omega) ?_); intro v7 w7 hown7 hg7 hwh7)
  have hb4 := below_grown (hb3.alloc hb3.size _) (by simp; omega) (hown6.alloc _) hg7
  have hk4 := keeps_grown (hown6.alloc _) hg7 (alloc_keeps hk3)
  have hs4 : w.heap.size + 1 ≤ w7.heap.size := by have := hg7.size; simp at this; omega
  obtain ⟨g4, k4, rfl⟩ := owns_some hown7 (by omega)
  clear hb3 hk3 hown6 hg7 hwh7 t1 t2 hs3
  have hsl : (sd.map (Value.int .u8)).length = 16 := by simpa using hs.out
  have hN4 := news_blk hk4 16
  rw [hsl] at hN4
  have t1 : (0 + 1 + tag.size + 2) + 16 ≤ maxLen := by unfold maxLen; omega
  have t2 : ((0 + 1 + tag.size + 2) + 16) * 1 ≤ 140737488355328 := by omega
  go_upto_region 6 with (at_builtin; go_loud (refine wpList_append_wh rfl _ _ 29 rfl (w.heap.size + 1) 5 i0 (.int .u8 0) 1 1 Tryd.underlying29 hinf hz0 hz1 hz2 rfl (by decide) _ _ _ rfl hown7 _ _ _ _ rfl hN4 (one_bytes sd) t1 t2 hs4 ?_); intro v8 w8 hown8 hg8 hwh8)
  have hb5 := below_grown hb4 hb4.size hown7 hg8
  have hs5 : w.heap.size + 1 ≤ w8.heap.size := by have := hg8.size; omega
  obtain ⟨g5, k5, rfl⟩ := owns_some hown8 (by omega)
  clear hb4 hk4 hown7 hg8 hwh8 t1 t2 hs4 hN4
  have hN5 := hN.out.up (hb5.mono (Nat.le_refl _))
  have t1 : (0 + 1 + tag.size + 2 + 16) + bs.length ≤ maxLen := by unfold maxLen; omega
  have t2 : ((0 + 1 + tag.size + 2 + 16) + bs.length) * 1 ≤ 140737488355328 := by omega
  go_upto_region 7 with (at_builtin; go_loud (refine wpList_append_wh rfl _ _ 29 rfl (w.heap.size + 1) 5 i0 (.int .u8 0) 1 1 Tryd.underlying29 hinf hz0 hz1 hz2 rfl (by decide) _ _ _ rfl hown8 _ _ _ _ rfl hN5 (one_bytes bs) t1 t2 hs5 ?_); intro v9 w9 hown9 hg9 hwh9)
  have hb6 := below_grown hb5 hb5.size hown8 hg9
  obtain ⟨g6, k6, rfl⟩ := owns_some hown9 (by omega)
  have hfin : (qu tag use sd bs).map (Value.int .u8) = [] ++ [Value.int .u8 (tag.size : Int)] ++ strCells tag ++ [Value.int .u8 (use % 256), Value.int .u8 (use / 256)] ++ sd.map (Value.int .u8) ++ bs.map (Value.int .u8) := by
    simp [qu, str_cells]
  have e0 : 0 + 1 + tag.size + 2 + 16 + bs.length = C := by have := hC.out; omega
  rw [e0] at hown9 ⊢
  rw [hfin]
  go_wp2
  go_ret
  exact ⟨g6, k6, rfl, hb6, owns_base hown9 (Nat.le_succ _)⟩
end Go.Proofs.YtfklkplnbmhddaaDoor
