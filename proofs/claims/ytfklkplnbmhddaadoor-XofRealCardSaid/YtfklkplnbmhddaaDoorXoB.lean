/-
  What a stream's question is: the document's.
-/
import Derived.Test.YtfklkplnbmhddaaDoorXoA
namespace Go.Proofs.YtfklkplnbmhddaaDoor
open Go.RowKit Flow
open Go.Lib (strCells strCells_length wpList_append_own_string)
set_option linter.unusedVariables false
set_option linter.unusedSimpArgs false

theorem left_u' {n L : Nat} (h : n < L) : L - (intOf (.int .i64 ((n : Int) + 1))).toNat < L - (intOf (.int .i64 (n : Int))).toNat := by
  show L - ((n : Int) + 1).toNat < L - (n : Int).toNat
  omega
set_option maxHeartbeats 4000000 in
theorem refq_ok (tag : ByteArray) (use : Int) (sd : List Int) (A : Option Addr) (c : Nat) (bs : List Int) (ht : tag.size ≤ 255) (hu0 : 0 ≤ use) (hu1 : use < 65536) (hs : sd.length = 16) (hsb : ∀ x, x ∈ sd → 0 ≤ x ∧ x < 256) (hbl : bs.length ≤ 65536) (w : World)
    (hN : News w A bs.length c 1 (bs.map (Value.int .u8))) :
    Calls Tryd.prog 12 #[.string tag, .int .i64 use, .agg (sd.map (Value.int .u8)).toArray, .slice A bs.length c] w fun e w' => ∃ g cap, e = .returned (.slice (some ⟨g, 0, none⟩) (qu tag use sd bs).length cap) ∧ Below w.heap.size w w' ∧
      w'.ownsRow w.heap.size 5 1 (.slice (some ⟨g, 0, none⟩) (qu tag use sd bs).length cap) (qu tag use sd bs).length ((qu tag use sd bs).map (Value.int .u8)) := by
  obtain ⟨i0, hinf, hz0, hz1, hz2⟩ := info_parts info_byte
  obtain ⟨C, hC⟩ : ∃ C, 19 + tag.size + bs.length = C := ⟨_, rfl⟩
  have hlq := qu_len tag use sd bs
  rw [hs, show 1 + tag.size + 2 + 16 + bs.length = C by omega] at hlq
  rw [hlq]
  have T0 : (0 : Int) ≤ (tag.size : Int) := by omega
  have T1 : (tag.size : Int) ≤ 255 := by omega
  have hCb : C ≤ 70000 := by omega
  replace hN := Lib.hid hN
  replace hlq := Lib.hid hlq
  replace hC := Lib.hid hC
  replace hsb := Lib.hid hsb
  have t1 : 0 + 1 + tag.size ≤ maxLen := by unfold maxLen; omega
  have t2 : 0 + 1 + tag.size ≤ 140737488355328 := by omega
  have hown1 : ((w.alloc (.cells (sd.map (Value.int .u8)).toArray 28 (0, 0))).alloc (.cells #[.int .u8 (tag.size : Int)] 5 (0, 0))).ownsRow (w.heap.size + 1) 5 1 (.slice (some ⟨w.heap.size + 1, 0, none⟩) 1 1) (0 + 1) [.int .u8 (tag.size : Int)] := by
    have := World.ownsRow_lit (base := w.heap.size + 1) (e := 5) (size := 1) (w.alloc (.cells (sd.map (Value.int .u8)).toArray 28 (0, 0))) #[.int .u8 (tag.size : Int)] 1 (by simp) (by unfold maxLen; omega) rfl
    simpa using this
  have hk1 : ((w.alloc (.cells (sd.map (Value.int .u8)).toArray 28 (0, 0))).alloc (.cells #[.int .u8 (tag.size : Int)] 5 (0, 0))).heap[w.heap.size]? = some (.cells (sd.map (Value.int .u8)).toArray 28 (0, 0)) := alloc_keeps (alloc_at rfl)
  have hb1 : Below w.heap.size w ((w.alloc (.cells (sd.map (Value.int .u8)).toArray 28 (0, 0))).alloc (.cells #[.int .u8 (tag.size : Int)] 5 (0, 0))) := ((Below.refl w.heap.size w).alloc (Nat.le_refl _) _).alloc (by simp) _
  have hs2 : w.heap.size + 1 ≤ ((w.alloc (.cells (sd.map (Value.int .u8)).toArray 28 (0, 0))).alloc (.cells #[.int .u8 (tag.size : Int)] 5 (0, 0))).heap.size := by simp
  replace hk1 := Lib.hid hk1
  replace hb1 := Lib.hid hb1
  go_enter Tryd.func12, Tryd.ntmps12
  go_upto_region 1 with (fail)
  go_upto_region 2 with (at_builtin; go_loud (refine wpList_append_own_string _ rfl _ _ 29 9 rfl (w.heap.size + 1) 5 i0 Tryd.underlying29 Tryd.underlying9 hinf hz0 hz1 hz2 _ _ _ rfl hown1 tag rfl t1 t2 hs2 ?_); intro v6 w6 hown6 hg6 hn6)
  have hb3 := below_grown hb1.out (Nat.le_trans (Nat.le_succ _) hs2) hown1 hg6
  have hk3 := keeps_grown hown1 hg6 hk1.out
  have hs3 : w.heap.size + 1 ≤ w6.heap.size := Nat.le_trans hs2 hg6.size
  obtain ⟨g3, k3, rfl⟩ := owns_some hown6 (by omega)
  clear hb1 hk1 hown1 hg6 hn6 t1 t2 hs2
  have u1 : 0 ≤ use % 256 ∧ use % 256 < 256 := by omega
  have u2 : 0 ≤ use / 256 ∧ use / 256 < 256 := by omega
  have t1 : (0 + 1 + tag.size) + 2 ≤ maxLen := by unfold maxLen; omega
  have t2 : ((0 + 1 + tag.size) + 2) * 1 ≤ 140737488355328 := by omega
  go_upto_region 3 with (at_builtin; go_loud (refine wpList_append_wh rfl _ _ 29 rfl (w.heap.size + 1) 5 i0 (.int .u8 0) 1 1 Tryd.underlying29 hinf hz0 hz1 hz2 rfl (by decide) _ _ _ rfl (hown6.alloc _) _ _ _ _ rfl (news_alloc w6 [.int .u8 (use % 256), .int .u8 (use / 256)] 5 (0, 0) 2) (one_bytes [use % 256, use / 256]) t1 t2 (by simp; omega) ?_); intro v7 w7 hown7 hg7 hwh7)
  have hb4 := below_grown (hb3.alloc hb3.size _) (by simp; omega) (hown6.alloc _) hg7
  have hk4 := keeps_grown (hown6.alloc _) hg7 (alloc_keeps hk3)
  have hs4 : w.heap.size + 1 ≤ w7.heap.size := by have := hg7.size; simp at this; omega
  obtain ⟨g4, k4, rfl⟩ := owns_some hown7 (by omega)
  clear hb3 hk3 hown6 hg7 hwh7 t1 t2 hs3
  generalize hR0 : [Value.int .u8 (tag.size : Int)] ++ strCells tag ++ [.int .u8 (use % 256), .int .u8 (use / 256)] = R0 at *
  obtain ⟨m, hm⟩ : ∃ m, 0 + 1 + tag.size + 2 = m := ⟨_, rfl⟩
  rw [hm] at hown7 ⊢
  have hmb : m ≤ 300 := by omega
  have hmC : m + 16 + bs.length = C := by have := hC.out; omega
  replace hmC := Lib.hid hmC
  replace hm := Lib.hid hm
  replace hR0 := Lib.hid hR0
  go_wp2
  go_loopw [9, 10] (fun v i wr => ∃ k g cp : Nat, k ≤ 16 ∧ i = .int .i64 (k : Int) ∧ v = .slice (some ⟨g, 0, none⟩) (m + k) cp ∧ Below w.heap.size w wr ∧ w.heap.size + 1 ≤ wr.heap.size ∧ wr.heap[w.heap.size]? = some (.cells (sd.map (Value.int .u8)).toArray 28 (0, 0)) ∧
      wr.ownsRow (w.heap.size + 1) 5 1 (.slice (some ⟨g, 0, none⟩) (m + k) cp) (m + k) (R0 ++ (sd.take k).map (Value.int .u8))) (fun _ i _ => 16 - (intOf i).toNat)
  case atStart => exact ⟨0, g4, k4, by omega, rfl, rfl, hb4, hs4, hk4, by simpa using hown7⟩
  case round =>
    clear hb4 hk4 hown7 hs4
    obtain ⟨k, g, cp, hk, rfl, rfl, hb, hsz, hkk, hown⟩ := hrel
    by_cases hlt : k < 16
    · have k0 : (0 : Int) ≤ (k : Int) := by omega
      have k1 : (k : Int) < 16 := by omega
      have hks : k < sd.length := by omega
      have hc0 : wr.cell? ⟨w.heap.size, k, none⟩ = some (.int .u8 (sd.getD k 0)) := by
        simp [World.cell?, hkk, hks]
      have hst : (sd.take (k + 1)).map (Value.int .u8) = (sd.take k).map (Value.int .u8) ++ [.int .u8 (sd.getD k 0)] := by
        rw [List.take_succ_eq_append_getElem hks, List.map_append, List.getD_eq_getElem?_getD, List.getElem?_eq_getElem hks]
        rfl
      replace hst := Lib.hid hst
      obtain ⟨X, hX⟩ : ∃ X, sd.getD k 0 = X := ⟨_, rfl⟩
      rw [hX] at hc0 hst
      replace hX := Lib.hid hX
      have t1 : m + k + 1 ≤ maxLen := by unfold maxLen; omega
      have t2 : (m + k + 1) * 1 ≤ 140737488355328 := by omega
      have hown' := hown.alloc (.cells #[.int .u8 X] 5 (0, 0))
      have hnw := news_alloc wr [.int .u8 X] 5 (0, 0) 1
      have hsz' : w.heap.size + 1 ≤ (wr.alloc (.cells #[.int .u8 X] 5 (0, 0))).heap.size := by simp; omega
      replace hkk := Lib.hid hkk
      go_wp2_with (at_builtin; go_loud (refine wpList_append_wh rfl _ _ 29 rfl (w.heap.size + 1) 5 i0 (.int .u8 0) 1 1 Tryd.underlying29 hinf hz0 hz1 hz2 rfl (by decide) _ _ _ rfl hown' _ _ _ _ rfl hnw (one_bytes [X]) t1 t2 hsz' ?_); intro v8 w8 hown8 hg8 hwh8; have hb8 := below_grown (hb.alloc hb.size _) (Nat.le_trans (Nat.le_succ _) hsz') hown' hg8; have hk8 := keeps_grown hown' hg8 (alloc_keeps hkk.out); have hs8 := Nat.le_trans hsz' hg8.size; obtain ⟨g8, k8, rfl⟩ := owns_some hown8 (Nat.succ_pos _); clear hg8 hwh8 hown' hnw hsz' hown t1 t2 hkk hb hc0)
      rw [List.append_assoc, ← hst.out] at hown8
      exact ⟨⟨k + 1, g8, k8, by omega, by go_num, rfl, hb8, hs8, hk8, hown8⟩, left_u' (by assumption)⟩
    · obtain rfl : k = 16 := by omega
      have hall : sd.take 16 = sd := List.take_of_length_le (by omega)
      rw [hall] at hown
      have hN5 := hN.out.up hb
      have t1 : m + 16 + bs.length ≤ maxLen := by unfold maxLen; omega
      have t2 : (m + 16 + bs.length) * 1 ≤ 140737488355328 := by omega
      have hfin : (qu tag use sd bs).map (Value.int .u8) = R0 ++ sd.map (Value.int .u8) ++ bs.map (Value.int .u8) := by
        rw [← hR0.out]
        simp [qu, str_cells]
      replace hfin := Lib.hid hfin
      go_wp2_with (at_builtin; go_loud (refine wpList_append_wh rfl _ _ 29 rfl (w.heap.size + 1) 5 i0 (.int .u8 0) 1 1 Tryd.underlying29 hinf hz0 hz1 hz2 rfl (by decide) _ _ _ rfl hown _ _ _ _ rfl hN5 (one_bytes bs) t1 t2 hsz ?_); intro v8 w8 hown8 hg8 hwh8; have hb8 := below_grown hb hb.size hown hg8; obtain ⟨g8, k8, rfl⟩ := owns_some hown8 (by omega); clear hg8 hwh8 t1 t2)
      rw [hmC.out, ← hfin.out] at hown8
      have hb9 := hb8
      rw [hmC.out]
      go_ret
      exact ⟨g8, k8, rfl, hb8, owns_base hown8 (Nat.le_succ _)⟩
end Go.Proofs.YtfklkplnbmhddaaDoor
